import PyProof.Rows.All
import Wide.All
import OpenK.AllK
import Wide.FinOn
import Lean
import PyProof.EqAt
import PyProof.EqKinds
import PyProof.TupleCall
import KE.LcSums
import PyProof.StrLawsJoin
import KE.KSortedM
import KE.KSortTup
import KE.KSortKey
import PyProof.WalkInts
import PyProof.MinMaxWalk
import KE.KRevIter
import PyProof.ReprLen
import KE.KDictList
import PySem.Challenge.RW_ringmaze_k11_drawings
set_option Elab.async false
set_option linter.all false
set_option maxRecDepth 100000
def PySem.W.Fast.tw12307168066484016877:Nat:=0
def PySem.W.Fast.tw17694094827879895851:Nat:=0
def PySem.W.Fast.tw5989522388786866792:Nat:=0
def PySem.W.Fast.tw2708258577782598187:Nat:=0
def PySem.W.Fast.tw6400183179653448304:Nat:=0
def PySem.W.Fast.tw3155540939742721878:Nat:=0
def PySem.W.Fast.tw8616645321572096608:Nat:=0
def PySem.W.Fast.tw15727834404708197551:Nat:=0
def PySem.W.Fast.tw18195625172497320473:Nat:=0
def PySem.W.Fast.tw16987679955917580806:Nat:=0
def PySem.W.Fast.tw15215842389911316574:Nat:=0
def PySem.W.Fast.tw753624359810252427:Nat:=0
def PySem.W.Fast.tw3406266605556693980:Nat:=0
def PySem.W.Fast.tw11694409438444243507:Nat:=0
def PySem.W.Fast.tw9503632635212930653:Nat:=0
def PySem.W.Fast.tw7568993851372359974:Nat:=0
def PySem.W.Fast.tw4040672568712810917:Nat:=0
def PySem.W.Fast.tw8103070577155223855:Nat:=0
def PySem.W.Fast.tw2099918307179006116:Nat:=0
def PySem.W.Fast.tw1531243496387527156:Nat:=0
def PySem.W.Fast.tw6781589349814657165:Nat:=0
def PySem.W.Fast.tw10475142524962470572:Nat:=0
def PySem.W.Fast.tw5121823158586653399:Nat:=0
def PySem.W.Fast.tw1768874804009651902:Nat:=0
def PySem.W.Fast.tw5914016178078635551:Nat:=0
def PySem.W.Fast.tw1397370932216346014:Nat:=0
def PySem.W.Fast.tw10205839673101552321:Nat:=0
def PySem.W.Fast.tw9343946061810856792:Nat:=0
def PySem.W.Fast.tw14004788159117375274:Nat:=0
def PySem.W.Fast.tw7858646700563071680:Nat:=0
def PySem.W.Fast.tw13964366124684774844:Nat:=0
def PySem.W.Fast.tw14417099402312481705:Nat:=0
def PySem.W.Fast.tw10203428893876274182:Nat:=0
def PySem.W.Fast.tw15610850099063909640:Nat:=0
def PySem.W.Fast.tw14760463283632540945:Nat:=0
def PySem.W.Fast.tw579445573757673859:Nat:=0
def PySem.W.Fast.tw13693566297896127494:Nat:=0
namespace L2
open PySem PySem.Spec PyProof.Rows
abbrev Key:=Sum Int Str
def keyIs:Key->Value->Bool
 | .inl k,v=>Value.isInt k v
 | .inr x,v=>Value.isStrOf x v
def keyH(w:World):Key->Int
 | .inl k=>hashInt k
 | .inr x=>hashStr w x
theorem keyIs_shape:∀ {k:Key} {v:Value},keyIs k v=true->(∃ i t,k=Sum.inl i/\v=Value.int i t)\/(∃ x t,k=Sum.inr x/\v=Value.str x t)
 | .inl i,v,h=>by
  obtain⟨t,e⟩:=Value.isInt_shape (k:=i) (v:=v) h
  exact .inl ⟨i,t,rfl,e⟩
 | .inr x,v,h=>by
  obtain⟨t,e⟩:=Value.isStrOf_shape (x:=x) (v:=v) h
  exact .inr ⟨x,t,rfl,e⟩
theorem keyIs_int(i:Int)(t:Tok):keyIs (.inl i) (.int i t)=true:=by simp [keyIs,Value.isInt]
theorem keyIs_str(x:Str)(t:Tok):keyIs (.inr x) (.str x t)=true:=by simp [keyIs,Value.isStrOf]
theorem key_ll(a b:Int):decide ((Sum.inl a:Key)=Sum.inl b)=(a==b):=by
 by_cases e:a=b
 ·subst e;simp
 ·have h:¬ (Sum.inl a:Key)=Sum.inl b:=fun q=>e (Sum.inl.inj q)
  rw [decide_eq_false h]
  exact (beq_eq_false_iff_ne.mpr e).symm
theorem key_rr(a b:Str):decide ((Sum.inr a:Key)=Sum.inr b)=decide (a=b):=by
 by_cases e:a=b
 ·subst e;simp
 ·have h:¬ (Sum.inr a:Key)=Sum.inr b:=fun q=>e (Sum.inr.inj q)
  rw [decide_eq_false h,decide_eq_false e]
theorem key_lr(a:Int)(b:Str):decide ((Sum.inl a:Key)=Sum.inr b)=false:=decide_eq_false (fun q=>nomatch q)
theorem key_rl(a:Str)(b:Int):decide ((Sum.inr a:Key)=Sum.inl b)=false:=decide_eq_false (fun q=>nomatch q)
def mixKind (prog : Program) (w : World) : PySem.KeyKind prog w Key where
  is := keyIs
  hash := keyH w
  inj := fun v a b ha hb => by
    rcases keyIs_shape ha with ⟨i, t, rfl, rfl⟩ | ⟨x, t, rfl, rfl⟩
    · rcases keyIs_shape hb with ⟨j, u, rfl, e⟩ | ⟨y, u, rfl, e⟩
      · injection e with e1 _; rw [e1]
      · exact nomatch e
    · rcases keyIs_shape hb with ⟨j, u, rfl, e⟩ | ⟨y, u, rfl, e⟩
      · exact nomatch e
      · injection e with e1 _; rw [e1]
  byValue := fun k v h => by
    rcases keyIs_shape h with ⟨i, t, rfl, rfl⟩ | ⟨x, t, rfl, rfl⟩ <;> rfl
  pyHash := fun hv h => by
    rcases keyIs_shape hv with ⟨i, t, rfl, rfl⟩ | ⟨x, t, rfl, rfl⟩
    · exact wpAny_pyHash_int h
    · exact wpAny_pyHash_str h
  eqBool := fun hu hv h => by
    rcases keyIs_shape hu with ⟨i, t, rfl, rfl⟩ | ⟨x, t, rfl, rfl⟩
    · rcases keyIs_shape hv with ⟨j, u, rfl, rfl⟩ | ⟨y, u, rfl, rfl⟩
      · rw [key_ll] at h; exact wpAny_eqBool_int h
      · rw [key_lr] at h; exact SeqAt.EqAt.int_str i t y u _ _ _ _ h
    · rcases keyIs_shape hv with ⟨j, u, rfl, rfl⟩ | ⟨y, u, rfl, rfl⟩
      · rw [key_rl] at h; exact SeqAt.EqAt.str_int x t j u _ _ _ _ h
      · rw [key_rr] at h; exact wpAny_eqBool_str h
  «strs» := fun k x t v h => by
    rcases keyIs_shape h with ⟨i, u, rfl, e⟩ | ⟨y, u, rfl, e⟩
    · exact nomatch e
    · injection e with e1 _
      subst e1
      cases v <;> rfl
theorem mixKind_int(prog:Program)(w:World)(i:Int)(t:Tok):(mixKind prog w).is (.inl i) (.int i t)=true:=keyIs_int i t
theorem mixKind_str(prog:Program)(w:World)(x:Str)(t:Tok):(mixKind prog w).is (.inr x) (.str x t)=true:=keyIs_str x t
end L2
namespace L2
open PySem PySem.Spec PyProof.Rows
inductive V where
 | non | bl (b:Bool) | int (i:Int) | str (x:Str) | byt (b:Array UInt8) | flt (b:UInt64) | ref (a:Addr) | ty (n:String)
 deriving DecidableEq
def RelV:V->Value->Prop
 | .non,u=>u=Value.none
 | .bl b,u=>u=Value.bool b
 | .int i,u=>∃ t,u=Value.int i t
 | .str x,u=>∃ t,u=Value.str x t
 | .byt b,u=>∃ t,u=Value.bytes b t
 | .flt b,u=>∃ t,u=Value.float b t
 | .ref a,u=>u=Value.ref a
 | .ty n,u=>u=Value.type n
abbrev Vals:List V->List Value->Prop:=Paired RelV
theorem Vals.length{xs:List V}{us:List Value}(r:Vals xs us):xs.length=us.length:=Paired.length r
theorem Vals.get:∀ {xs:List V} {us:List Value} {i:Nat} {x:V},Vals xs us->xs[i]? = some x->∃ u,us[i]? = some u/\RelV x u
 | _,_,_,_,.nil,e=>by simp at e
 | _,_,0,_,.cons r _,e=>by simp at e;subst e;exact⟨_,rfl,r⟩
 | _,_,i+1,x,.cons _ t,e=>by
  obtain⟨u,h1,h2⟩:=Vals.get (i:=i) (x:=x) t (by simpa using e)
  exact⟨u,by simpa using h1,h2⟩
theorem Vals.set{x:V}{u:Value}(r:RelV x u):∀ {xs:List V} {us:List Value} (i:Nat),Vals xs us->Vals (xs.set i x) (us.set i u)
 | _,_,_,.nil=>.nil
 | _,_,0,.cons _ t=>.cons r t
 | _,_,i+1,.cons q t=>.cons q (Vals.set r i t)
theorem Vals.append:∀ {xs ys:List V} {us ws:List Value},Vals xs us->Vals ys ws->Vals (xs++ys) (us++ws)
 | _,_,_,_,.nil,s=>s
 | _,_,_,_,.cons r t,s=>.cons r (Vals.append t s)
theorem Vals.take:∀ {xs:List V} {us:List Value} (n:Nat),Vals xs us->Vals (xs.take n) (us.take n)
 | _,_,0,_=>.nil
 | _,_,_+1,.nil=>.nil
 | _,_,n+1,.cons r t=>.cons r (Vals.take n t)
theorem Vals.drop:∀ {xs:List V} {us:List Value} (n:Nat),Vals xs us->Vals (xs.drop n) (us.drop n)
 | _,_,0,r=>r
 | _,_,_+1,.nil=>.nil
 | _,_,n+1,.cons _ t=>Vals.drop n t
def RelO:Option V->Option Value->Prop
 | some v,some u=>RelV v u
 | none,none=>True
 | _,_=>False
def KV{κ:Type}:List (κ×V)->List (κ×Value)->Prop:=Paired fun (p:κ×V) (q:κ×Value)=>p.1=q.1/\RelV p.2 q.2
def kV:Key->V
 | .inl i=>.int i
 | .inr x=>.str x
inductive HO where
  | lst (xs:List V)
  | tup (xs:List V)
  | dK (kvs:List (Key×V)) | dT (kvs:List (List Key×V))
  | set (S:Int->Bool) (n:Nat)
  | ins (C dx:Addr) (fs:List (Str×V))
  | own (x:Addr)
  | xd (fs:List (Str×V))
  | met (f x:Addr)
  | rng (lo hi:Int)
  | frz (o:Obj) (u:HO)
  | tbl (ps:Array Value)
  | ext (φ:Heap->Prop)
abbrev Hp:=Addr->Option HO
def upd(H:Hp)(a:Addr)(o:HO):Hp:=fun b=>if b=a then some o else H b
theorem upd_same{H:Hp}{a:Addr}{o:HO}:upd H a o a=some o:=by unfold upd;rw [if_pos rfl]
theorem upd_ne{H:Hp}{a b:Addr}{o:HO}(h:b≠a):upd H a o b=H b:=by unfold upd;rw [if_neg h]
theorem upd_upd{H:Hp}{a:Addr}{o u:HO}:upd (upd H a o) a u=upd H a u:=by
 funext b;unfold upd;split<;>rfl
theorem ne_of{H:Hp}{a b:Addr}{o u:HO}(h:H a=some o)(h':H b=some u)(d:o≠u):a≠b:=by
 intro e;subst e;rw [h] at h';exact d (Option.some.inj h')
theorem ne_of_none{H:Hp}{a b:Addr}{o:HO}(h:H a=some o)(h':H b=none):a≠b:=by
 intro e;subst e;rw [h] at h';cases h'
section
variable (P:Program) (w:World)
def ObjOk (H : Hp) (h : Heap) (a : Addr) : HO → Prop
 | .lst xs => xs.length ≤ sizeLine ∧ ∃ (its : List Value) (n : Nat), Vals xs its ∧ h.get? a = some { cls := .type "list", data := .seq its.toArray n }
 | .tup xs => xs.length ≤ sizeLine ∧ ∃ its : List Value, Vals xs its ∧ IsTup h a its.toArray
 | .dK kvs => kvs.length ≤ sizeLine ∧ (a == sysModules) = false ∧ ∃ vs, KV kvs vs ∧ h.DictOf (mixKind P w) a vs
 | .dT kvs => kvs.length ≤ sizeLine ∧ (a == sysModules) = false ∧ ∃ xs : List (List Key × Addr × Value),
   Paired (fun (p : List Key × V) (q : List Key × Addr × Value) => p.1 = q.1 ∧ H q.2.1 = some (.tup (p.1.map kV)) ∧ RelV p.2 q.2.2) kvs xs ∧
   ∃ o es ep, h.get? a = some o ∧ o.ExactDict ∧ o.data = .dict es ep ∧ es.toList = xs.map (entryOfKey (tupleKind (mixKind P w))) ∧ (xs.map (·.1)).Nodup
 | .set S n => h.SetOf (intKind P w) a S n
 | .ins C dx fs => H dx = some (.own a) ∧ fs.length ≤ 1000 ∧ dx ≠ a ∧ h.get? a = some (PySem.W.instObj C dx) ∧
   ∃ mA, h.Ns1 dx mA ∧ (∀ f, RelO (fs.lookup f) (mA f)) ∧ PySem.Within mA (fs.map (·.1))
 | .own _ => ∃ o, h.get? a = some o
 | .xd fs => ∃ mA, h.Ns1 a mA ∧ ∀ f, RelO (fs.lookup f) (mA f)
 | .rng lo hi => ∃ t u v, h.get? a = some { cls := .type "range", data := .fields #[.int lo t, .int hi u, .int 1 v] }
 | .frz o u => h.get? a = some o ∧ ObjOk H h a u
 | .tbl ps => h.get? a = some { cls := .none, data := .fields ps }
 | .met f x => h.get? a = some (PySem.W.methodObj (.ref f) (.ref x))
 | .ext φ => φ h ∧ (∃ o, h.get? a = some o) ∧ ∀ h1 h2 : Heap, φ h1 → (∀ o, h1.get? a = some o → h2.get? a = some o) → φ h2
def HOk(H:Hp)(h:Heap):Prop:=∀ a o,H a=some o->ObjOk P w H h a o
end
section
variable {P:Program} {w:World} {H H':Hp} {h h':Heap} {a:Addr} {o:HO}
theorem ObjOk.lt(x:ObjOk P w H h a o):a<h.objs.size:=by
 cases o with
 | lst xs=>obtain⟨_,_,_,_,e⟩:=x;exact Heap.lt_size e
 | tup xs=>obtain⟨_,_,_,p⟩:=x;exact p.lt
 | dK kvs=>obtain⟨_,_,_,_,o,_,_,e,_⟩:=x;exact Heap.lt_size e
 | dT kvs=>obtain⟨_,_,_,_,o,_,_,e,_⟩:=x;exact Heap.lt_size e
 | set S n=>obtain⟨o,_,_,_,e,_⟩:=x;exact Heap.lt_size e
 | ins C dx fs=>obtain⟨_,_,_,e,_⟩:=x;exact Heap.lt_size e
 | own y=>obtain⟨_,e⟩:=x;exact Heap.lt_size e
 | xd fs=>obtain⟨_,⟨_,_,_,e,_⟩,_⟩:=x;exact Heap.lt_size e
 | rng lo hi=>obtain⟨_,_,_,e⟩:=x;exact Heap.lt_size e
 | frz ob u=>obtain⟨e,_⟩:=x;exact Heap.lt_size e
 | tbl ps=>exact Heap.lt_size (show h.get? a=some _ from x)
 | met f y=>exact Heap.lt_size (show h.get? a=some _ from x)
 | ext φ=>obtain⟨_,⟨_,e⟩,_⟩:=x;exact Heap.lt_size e
theorem Paired.mapP{α β:Type}{F G:α->β->Prop}:∀ {l₁:List α} {l₂:List β},Paired F l₁ l₂->(∀ a b,F a b->G a b)->Paired G l₁ l₂
 | _,_,.nil,_=>.nil
 | _,_,.cons r t,f=>.cons (f _ _ r) (Paired.mapP t f)
theorem ObjOk.stay(x:ObjOk P w H h a o)(k:∀ b u,(b=a\/H b=some (.own a))->h.get? b=some u->h'.get? b=some u)
  (ho:∀ b,H b=some (.own a)->H' b=some (.own a)) (ht:∀ b xs,H b=some (.tup xs)->H' b=some (.tup xs)):ObjOk P w H' h' a o:=by
 induction o with
 | lst xs=>obtain⟨z,its,n,r,e⟩:=x;exact⟨z,its,n,r,k _ _ (.inl rfl) e⟩
 | tup xs=>obtain⟨z,its,r,ob,e,c⟩:=x;exact⟨z,its,r,ob,k _ _ (.inl rfl) e,c⟩
 | dK kvs=>obtain⟨z,y,vs,r,ob,es,ep,e,c⟩:=x;exact⟨z,y,vs,r,ob,es,ep,k _ _ (.inl rfl) e,c⟩
 | dT kvs=>
  obtain⟨z,y,xs,r,ob,es,ep,e,c⟩:=x
  exact⟨z,y,xs,Paired.mapP r fun p q z=>⟨z.1,ht _ _ z.2.1,z.2.2⟩,ob,es,ep,k _ _ (.inl rfl) e,c⟩
 | set S n=>obtain⟨ob,es,ep,t,e,c⟩:=x;exact⟨ob,es,ep,t,k _ _ (.inl rfl) e,c⟩
 | ins C dx fs=>
  obtain⟨d,z,ne,e,mA,⟨od,es,ep,e2,c⟩,r⟩:=x
  exact⟨ho _ d,z,ne,k _ _ (.inl rfl) e,mA,⟨od,es,ep,k _ _ (.inr d) e2,c⟩,r⟩
 | own y=>obtain⟨ob,e⟩:=x;exact⟨ob,k _ _ (.inl rfl) e⟩
 | xd fs=>obtain⟨mA,⟨od,es,ep,e,c⟩,r⟩:=x;exact⟨mA,⟨od,es,ep,k _ _ (.inl rfl) e,c⟩,r⟩
 | rng lo hi=>obtain⟨t,u,v,e⟩:=x;exact⟨t,u,v,k _ _ (.inl rfl) e⟩
 | frz ob u ih=>obtain⟨e,q⟩:=x;exact⟨k _ _ (.inl rfl) e,ih q⟩
 | tbl ps=>
  have e:h.get? a=some { cls:=.none,data:=.fields ps }:=x
  show h'.get? a=some { cls:=.none,data:=.fields ps }
  exact k a _ (.inl rfl) e
 | met f y=>
  have e:h.get? a=some (PySem.W.methodObj (.ref f) (.ref y)):=x
  show h'.get? a=some (PySem.W.methodObj (.ref f) (.ref y))
  exact k a _ (.inl rfl) e
 | ext φ=>obtain⟨p,⟨o,e⟩,st⟩:=x;exact⟨st _ _ p fun o q=>k _ _ (.inl rfl) q,⟨o,k _ _ (.inl rfl) e⟩,st⟩
theorem HOk.lt(x:HOk P w H h)(e:H a=some o):a<h.objs.size:=(x a o e).lt
theorem HOk.fresh(x:HOk P w H h)(e:h.objs.size<=a):H a=none:=by
 cases q:H a with
 | none=>rfl
 | some u=>exact absurd (Nat.lt_of_lt_of_le (x.lt q) e) (Nat.lt_irrefl _)
theorem HOk.kept(x:HOk P w H h)(k:∀ b u,h.get? b=some u->h'.get? b=some u):HOk P w H h':=fun a o e=>
 (x a o e).stay (fun b u _ q=>k b u q) (fun _ q=>q) fun _ _ q=>q
theorem HOk.laid(x:HOk P w H h)(k:∀ b u,h.get? b=some u->h'.get? b=some u)(hp:h.objs.size<=a)(new:ObjOk P w (upd H a o) h' a o):HOk P w (upd H a o) h':=fun b u e=>by
 have hn:=x.fresh hp
 by_cases hb:b=a
 ·subst hb;rw [upd_same] at e;cases e;exact new
 ·rw [upd_ne hb] at e
  exact (x b u e).stay (fun c v _ q=>k c v q) (fun c q=>by rw [upd_ne (ne_of_none q hn)];exact q) fun c xs q=>by rw [upd_ne (ne_of_none q hn)];exact q
end
def Rd(H:Hp)(a:Addr)(u:HO):Prop:=H a=some u\/∃ o,H a=some (.frz o u)
theorem Rd.ok{P:Program}{w:World}{H:Hp}{h:Heap}{a:Addr}{u:HO}(r:Rd H a u)(x:HOk P w H h):ObjOk P w H h a u:=by
 rcases r with r | ⟨o,r⟩
 ·exact x a u r
 ·obtain⟨_,q⟩:=x a _ r
  exact q
def Mut:Option HO->Prop
 | some (.lst _)=>True
 | some (.dK _)=>True
 | some (.dT _)=>True
 | some (.set _ _)=>True
 | some (.ins _ _ _)=>True
 | some (.ext _)=>True
 | _=>False
section
variable {P:Program} {w:World} {H:Hp} {h h':Heap} {x e:Addr} {o':HO}
theorem HOk.write(ok:HOk P w H h)(mu:Mut (H x))(he:e=x\/H e=some (.own x))(k:∀ b u,b≠e->h.get? b=some u->h'.get? b=some u)(heo:∃ u,h'.get? e=some u)
  (new:ObjOk P w (upd H x o') h' x o'):HOk P w (upd H x o') h':=fun b u q=>by
 have nown:∀ c y,H c=some (.own y)->c≠x:=fun c y r z=>by subst z;rw [r] at mu;exact mu
 have ntup:∀ c xs,H c=some (.tup xs)->c≠x:=fun c xs r z=>by subst z;rw [r] at mu;exact mu
 by_cases hb:b=x
 ·subst hb;rw [upd_same] at q;cases q;exact new
 ·rw [upd_ne hb] at q
  by_cases hbe:b=e
  ·have q':H b=some (.own x):=by
    rcases he with z | z
    ·exact absurd (hbe.trans z) hb
    ·rw [hbe];exact z
   rw [q] at q';cases q'
   obtain⟨v,hv⟩:=heo
   exact⟨v,by rw [hbe];exact hv⟩
  ·refine (ok b u q).stay (fun c v hc r=>k c v ?_ r) (fun c r=>by rw [upd_ne (nown c b r)];exact r) fun c xs r=>by rw [upd_ne (ntup c xs r)];exact r
   rcases hc with rfl | hc
   ·exact hbe
   ·rintro rfl
    rcases he with z | z
    ·exact nown c b hc z
    ·rw [hc] at z;cases z;exact hb rfl
end
structure Un (fs ex:List Addr) (H H':Hp) (h h':Heap):Prop where
 keep:∀ b o,h.get? b=some o->H b=none->b∉fs->b∉ex->h'.get? b=some o
 slot:∀ b o,h.get? b=some o->H b=none->b∈fs->b∉ex->∃ sl,h'.get? b=some { o with slots:=sl }
 free:∀ b o,h.get? b=some o->H b=none->b∉ex->H' b=none
 there:∀ b o,h.get? b=some o->b∉ex->∃ o',h'.get? b=some o'
 tups:∀ b xs,H b=some (.tup xs)->H' b=some (.tup xs)
 frzs:∀ b o u,H b=some (.frz o u)->H' b=some (.frz o u)
 tbls:∀ b ps,H b=some (.tbl ps)->∃ more,H' b=some (.tbl (ps++more))
section
variable {fs fs' ex ex':List Addr} {H H1 H2:Hp} {h h1 h2 h':Heap} {a x e:Addr} {o:HO}
theorem Un.any(u:Un fs ex H H1 h h1){b:Addr}{ob:Obj}(q:h.get? b=some ob)(n:H b=none)(hx:b∉ex):∃ sl,h1.get? b=some { ob with slots:=sl }:=by
 by_cases hb:b∈fs
 ·exact u.slot b ob q n hb hx
 ·exact⟨ob.slots,u.keep b ob q n hb hx⟩
theorem Un.kept(k:∀ b u,h.get? b=some u->h'.get? b=some u):Un fs ex H H h h':=
 ⟨fun b ob q _ _ _=>k b ob q,fun b ob q _ _ _=>⟨ob.slots,k b ob q⟩,fun _ _ _ n _=>n,fun b ob q _=>⟨ob,k b ob q⟩,fun _ _ q=>q,fun _ _ _ q=>q,fun _ ps q=>⟨#[],by rw [q];simp⟩⟩
theorem Un.refl:Un fs ex H H h h:=Un.kept fun _ _ q=>q
theorem Un.laid(k:∀ b u,h.get? b=some u->h'.get? b=some u)(hp:h.objs.size<=a)(hn:H a=none):Un fs ex H (upd H a o) h h' where
 keep:=fun b u q _ _ _=>k b u q
 slot:=fun b u q _ _ _=>⟨u.slots,k b u q⟩
 free:=fun b u q n _=>by rw [upd_ne (Nat.ne_of_lt (Nat.lt_of_lt_of_le (Heap.lt_size q) hp))];exact n
 there:=fun b u q _=>⟨u,k b u q⟩
 tups:=fun b xs q=>by rw [upd_ne (ne_of_none q hn)];exact q
 frzs:=fun b u xs q=>by rw [upd_ne (ne_of_none q hn)];exact q
 tbls:=fun b ps q=>⟨#[],by rw [upd_ne (ne_of_none q hn),q];simp⟩
theorem Un.write(mu:Mut (H x))(he:e=x\/H e=some (.own x))(k:∀ b u,b≠e->h.get? b=some u->h'.get? b=some u)(heo:∃ u,h'.get? e=some u):Un fs ex H (upd H x o) h h':=by
 have hx:∀ b,H b=none->b≠x:=fun b n z=>by subst z;rw [n] at mu;exact mu
 have hb:∀ b,H b=none->b≠e:=fun b n z=>by
  subst z
  rcases he with r | r
  ·exact hx b n r
  ·rw [n] at r;cases r
 have hm:∀ b u,H b=some u->¬ Mut (some u)->b≠x:=fun b u q nm z=>by subst z;rw [q] at mu;exact nm mu
 refine⟨fun b u q n _ _=>k b u (hb b n) q,fun b u q n _ _=>⟨u.slots,k b u (hb b n) q⟩,fun b u q n _=>by rw [upd_ne (hx b n)];exact n,fun b u q _=>?_,
  fun b xs q=>by rw [upd_ne (hm b _ q fun z=>z)];exact q,fun b u xs q=>by rw [upd_ne (hm b _ q fun z=>z)];exact q,fun b ps q=>⟨#[],by rw [upd_ne (hm b _ q fun z=>z),q];simp⟩⟩
 by_cases hbe:b=e
 ·subst hbe;exact heo
 ·exact⟨u,k b u hbe q⟩
end
def trk(h:Heap)(H:Hp):List Addr:=(List.range h.objs.size).filter fun a=>(H a).isSome
def hidT(h:Heap)(H:Hp):Heap:=PySem.W.hideAll h (trk h H)
theorem hidT_size(h:Heap)(H:Hp):(hidT h H).objs.size=h.objs.size:=PySem.W.hideAll_size _ _
theorem hidT_get{h:Heap}{H:Hp}{b:Addr}{o:Obj}(e:h.get? b=some o)(n:H b=none):(hidT h H).get? b=some o:=
 PySem.W.hideAll_get _ e fun hm=>by
  have q:(H b).isSome=true:=(List.mem_filter.mp hm).2
  rw [n] at q;simp at q
theorem of_hidT{h:Heap}{H:Hp}{b:Addr}{o:Obj}(e:(hidT h H).get? b=some o):h.get? b=some o/\H b=none:=by
 have e':h.get? b=some o:=PySem.W.of_hideAll (trk h H) e
 refine⟨e',?_⟩
 cases q:H b with
 | none=>rfl
 | some x=>
  have hm:b∈trk h H:=List.mem_filter.mpr ⟨List.mem_range.mpr (Heap.lt_size e'),by simp [q]⟩
  have z:(hidT h H).get? b=none:=PySem.W.hideAll_none (trk h H) hm
  rw [z] at e;cases e
def allNews(g h:Heap)(L:Addr):List (Addr×Obj):=(List.range h.objs.size).filterMap fun a=>if a=L\/(g.get? a).isSome=true then none else (h.get? a).map fun o=>(a,o)
def rest(g h:Heap)(L d:Addr):List (Addr×Obj):=(allNews g h L).filter fun p=>decide (p.1≠d)
end L2
namespace L2
open PySem PySem.Spec PyProof.Rows
structure Mod (K:PySem.W.Frag) (mg:Str->Option Value) (base:Heap):Prop where
 kin:K.In base
 glob:base.Ns mainGlobals mg
 blt:∃ mb,base.Ns builtinsNs mb/\∀ x:Str,x≠"__name__"->mb x=bootBuiltins x
 nolimit:base.NoLimit
structure Cx where
 prog:Program
 w:World
 K:PySem.W.Frag
 mg:Str->Option Value
 base:Heap
 A:Around
 N:List Str
 s₀:Shared
 H₀:Hp
 env:Env
 outer:List Env
 stack:List Env
 ex:List Addr
 fn:Str->Bool
 calm:Bool
 pn:List (Addr×Obj)
 xe:Value->Shared->Prop
def frs(l:List Env):List Addr:=l.filterMap (·.frame)
abbrev Cx.fs (X:Cx):List Addr:=frs X.outer
def Vis(sc:Scope)(x:Str):Prop:=sc.names.lookup x=some .local\/sc.names.lookup x=some .cell\/sc.names.lookup x=some .free
def Loc(sc:Scope)(x:Str):Prop:=sc.names.lookup x=some .local\/sc.names.lookup x=some .cell
def Look(env:Env)(h:Heap)(m:Str->Option Value)(x:Str)(u:Value):Prop:=
 (env.kindOf x=some .local/\m x=some u)\/((env.kindOf x=some .cell\/env.kindOf x=some .free)/\∃ c,env.cells.lookup x=some c/\h.IsCell c (some u))
structure Cx.Ok (X:Cx):Prop where
 mod:Mod X.K X.mg X.base
 kind:X.env.scope.kind=.function
 glob:X.env.globals=mainGlobals
 blt:X.env.builtins=builtinsNs
 above:X.s₀.heap.objs.size<=X.env.locals
 inj:∀ x y c,X.env.cells.lookup x=some c->X.env.cells.lookup y=some c->x=y
 has:∀ x,(X.env.kindOf x=some .cell\/X.env.kindOf x=some .free)->∃ c,X.env.cells.lookup x=some c
 cab:∀ x c,X.fn x=true->X.env.cells.lookup x=some c->X.s₀.heap.objs.size<=c
 hd:X.calm=true->X.A.handled=none
 frames:X.A.frames=some X.stack
 stk:X.stack=X.outer\/(X.stack=X.env::X.outer/\X.env.frame=some X.env.locals)
 exf:∀ b∈X.ex,b≠X.env.locals/\∀ x c,X.env.cells.lookup x=some c->c≠b
 bs:∀ b o,X.base.get? b=some o->X.s₀.heap.get? b=some o/\X.H₀ b=none
 bsz:X.base.objs.size<=X.s₀.heap.objs.size
 noex:∀ b o,X.base.get? b=some o->b∉X.ex
 exfs:∀ b∈X.ex,b∉X.fs
 funs:X.s₀.heap.FunFrames X.base X.outer
 frf:∀ b∈X.fs,X.H₀ b=none
structure Inv (X:Cx) (pins:List (Addr×Obj)) (σ:List (Option V)) (H:Hp) (s:Shared):Prop where
 ok:X.Ok
 os:s.os=X.s₀.os
 bare:AllBare s.gens
 base:Un X.fs X.ex X.H₀ H X.s₀.heap s.heap
 loc:∃ m,s.heap.Ns X.env.locals m/\∀ (i:Nat) (x:Str) (v:V),X.N[i]? = some x->σ[i]? = some (some v)->Vis X.env.scope x->∃ u,RelV v u/\Look X.env s.heap m x u
 cell:∀ x c,X.env.cells.lookup x=some c->∃ v,s.heap.IsCell c v
 free:H X.env.locals=none
 freeC:∀ x c,X.env.cells.lookup x=some c->H c=none
 pin:∀ p∈X.pn++pins,s.heap.get? p.1=some p.2/\H p.1=none/\p.1≠X.env.locals/\p.1∉X.fs/\∀ v,p.2.data≠.cell v
 hok:HOk X.prog X.w H s.heap
 len:σ.length=X.N.length
section
variable {X:Cx} {pins:List (Addr×Obj)} {σ:List (Option V)} {H H':Hp} {s:Shared} {h':Heap}
theorem Cx.Ok.nofr(ok:X.Ok){b:Addr}{o:Obj}(e:X.base.get? b=some o):b∉X.fs:=fun hb=>by
 have:=(ok.funs.mem hb).1
 rw [e] at this;cases this
theorem Inv.bs(I:Inv X pins σ H s):∀ b o,X.base.get? b=some o->s.heap.get? b=some o/\H b=none:=fun b o e=>
 ⟨I.base.keep b o (I.ok.bs b o e).1 (I.ok.bs b o e).2 (I.ok.nofr e) (I.ok.noex b o e),I.base.free b o (I.ok.bs b o e).1 (I.ok.bs b o e).2 (I.ok.noex b o e)⟩
theorem Inv.bk(I:Inv X pins σ H s):∀ b o,X.base.get? b=some o->s.heap.get? b=some o:=fun b o e=>(I.bs b o e).1
theorem Inv.mod(I:Inv X pins σ H s):Mod X.K X.mg X.base:=I.ok.mod
theorem Inv.kIn(I:Inv X pins σ H s):X.K.In s.heap:=I.ok.mod.kin.keeps I.bk
theorem Inv.lt(I:Inv X pins σ H s):X.env.locals<s.heap.objs.size:=let ⟨_,hn,_⟩:=I.loc;hn.lt
theorem Inv.sz(I:Inv X pins σ H s):X.s₀.heap.objs.size<=s.heap.objs.size:=Nat.le_trans I.ok.above (Nat.le_of_lt I.lt)
theorem Inv.nofs(I:Inv X pins σ H s){a:Addr}(h:s.heap.objs.size<=a):a∉X.fs:=fun hb=>by
 obtain⟨_,o,ho,_⟩:=I.ok.funs.mem hb
 exact absurd (Nat.lt_of_lt_of_le (Heap.lt_size ho) (Nat.le_trans I.sz h)) (Nat.lt_irrefl _)
theorem Inv.cne(I:Inv X pins σ H s):∀ x c,X.env.cells.lookup x=some c->c≠X.env.locals:=fun x c e z=>by
 obtain⟨v,o,ho,hd⟩:=I.cell x c e
 obtain⟨m,⟨o',es,ep,ho',hd',_⟩,_⟩:=I.loc
 rw [z,ho'] at ho;cases ho;rw [hd'] at hd;cases hd
theorem Inv.funs(I:Inv X pins σ H s):s.heap.FunFrames X.base X.outer:=by
 have all:∀ (l:List Env),(∀ b∈frs l,b∈X.fs)->X.s₀.heap.FunFrames X.base l->s.heap.FunFrames X.base l:=by
  intro l
  induction l with
  | nil=>intro _ _;trivial
  | cons env r ih=>
   intro hs hl
   obtain⟨hk,⟨L,o,hf,hn,ho,hd⟩,hr⟩:=hl
   have hL:L∈X.fs:=hs L (by unfold frs;rw [List.filterMap_cons,hf];exact List.mem_cons_self)
   obtain⟨sl,e⟩:=I.base.slot L o ho (I.ok.frf L hL) hL fun z=>I.ok.exfs L z hL
   exact⟨hk,⟨L,_,hf,hn,e,hd⟩,ih (fun b hb=>hs b (by unfold frs;rw [List.filterMap_cons,hf];exact List.mem_cons_of_mem _ hb)) hr⟩
 exact all X.outer (fun _ hb=>hb) I.ok.funs
theorem Inv.stack(I:Inv X pins σ H s):s.heap.FunFrames X.base X.stack:=by
 rcases I.ok.stk with e | ⟨e,hf⟩
 ·rw [e];exact I.funs
 ·rw [e]
  obtain⟨m,hn,_⟩:=I.loc
  refine .cons (by rw [I.ok.kind];decide) hf hn ?_ I.funs
  exact Heap.get?_none_of_le (Nat.le_trans I.ok.bsz I.ok.above)
theorem Inv.stkSub(I:Inv X pins σ H s):∀ b∈frs X.stack,b∈X.env.locals::X.fs:=fun b hb=>by
 rcases I.ok.stk with e | ⟨e,hf⟩
 ·rw [e] at hb;exact List.mem_cons_of_mem _ hb
 ·rw [e] at hb
  unfold frs at hb
  rw [List.filterMap_cons,hf] at hb
  exact hb
theorem Inv.stkFree(I:Inv X pins σ H s):∀ b∈frs X.stack,H b=none:=fun b hb=>by
 rcases List.mem_cons.mp (I.stkSub b hb) with e | hb
 ·rw [e];exact I.free
 ·obtain⟨_,o,ho,_⟩:=I.ok.funs.mem hb
  exact I.base.free b o ho (I.ok.frf b hb) fun z=>I.ok.exfs b z hb
theorem Inv.step{g':Array GenState}{t':Nat}{d':Drawn}{ch:List Addr}(I:Inv X pins σ H s)
  (hch:∀ b∈ch,(b∈X.ex\/X.s₀.heap.objs.size<=b)/\b≠X.env.locals/\(∀ x c,X.env.cells.lookup x=some c->c≠b)/\∀ p∈X.pn++pins,p.1≠b)
  (keep:∀ b o,b≠X.env.locals->b∉X.fs->b∉ch->s.heap.get? b=some o->H b=none->h'.get? b=some o)
  (slot:∀ b o,b≠X.env.locals->b∈X.fs->b∉ch->s.heap.get? b=some o->H b=none->∃ sl,h'.get? b=some { o with slots:=sl }) (free:∀ b o,b∉ch->s.heap.get? b=some o->H b=none->H' b=none)
  (there:∀ b o,b∉ch->s.heap.get? b=some o->∃ o',h'.get? b=some o')
  (tups:∀ b xs,H b=some (.tup xs)->H' b=some (.tup xs)) (frzs:∀ b o u,H b=some (.frz o u)->H' b=some (.frz o u)) (tbls:∀ b ps,H b=some (.tbl ps)->∃ more,H' b=some (.tbl (ps++more)))
  (ns:∀ m,s.heap.Ns X.env.locals m->h'.Ns X.env.locals m) (hok:HOk X.prog X.w H' h') (hg:AllBare g') :
  Inv X pins σ H' { s with heap:=h',gens:=g',drawn:=d',toks:=t' }:=by
 have neL:∀ b o,X.s₀.heap.get? b=some o->b≠X.env.locals:=fun b o e=>Nat.ne_of_lt (Nat.lt_of_lt_of_le (Heap.lt_size e) I.ok.above)
 have neC:∀ b o,X.s₀.heap.get? b=some o->b∉X.ex->b∉ch:=fun b o e hx hb=>by
  rcases (hch b hb).1 with z | z
  ·exact hx z
  ·exact absurd (Nat.lt_of_lt_of_le (Heap.lt_size e) z) (Nat.lt_irrefl _)
 have cellK:∀ x c,X.env.cells.lookup x=some c->∀ v,s.heap.IsCell c v->h'.IsCell c v:=fun x c e v ⟨o,ho,hd⟩=>by
  have nch:c∉ch:=fun z=>(hch c z).2.2.1 x c e rfl
  by_cases hc:c∈X.fs
  ·obtain⟨sl,q⟩:=slot c o (I.cne x c e) hc nch ho (I.freeC x c e)
   exact⟨_,q,hd⟩
  ·exact⟨o,keep c o (I.cne x c e) hc nch ho (I.freeC x c e),hd⟩
 refine⟨I.ok,I.os,hg,⟨fun b o e n hb hx=>?_,fun b o e n hb hx=>?_,fun b o e n hx=>?_,fun b o e hx=>?_,fun b xs e=>tups b xs (I.base.tups b xs e),fun b o xs e=>frzs b o xs (I.base.frzs b o xs e),fun b ps e=>?_⟩,?_,fun x c e=>?_,?_,fun x c e=>?_,fun p hp=>?_,hok,I.len⟩
 ·exact keep b o (neL b o e) hb (neC b o e hx) (I.base.keep b o e n hb hx) (I.base.free b o e n hx)
 ·obtain⟨sl,e1⟩:=I.base.slot b o e n hb hx
  obtain⟨sl',e2⟩:=slot b _ (neL b o e) hb (neC b o e hx) e1 (I.base.free b o e n hx)
  exact⟨sl',e2⟩
 ·obtain⟨o',e1⟩:=I.base.there b o e hx
  exact free b o' (neC b o e hx) e1 (I.base.free b o e n hx)
 ·obtain⟨o',e1⟩:=I.base.there b o e hx
  exact there b o' (neC b o e hx) e1
 ·obtain⟨m1,e1⟩:=I.base.tbls b ps e
  obtain⟨m2,e2⟩:=tbls b _ e1
  exact⟨m1++m2,by rw [e2,Array.append_assoc]⟩
 ·obtain⟨m,hn,hl⟩:=I.loc
  refine⟨m,ns m hn,fun i x v e1 e2 e3=>?_⟩
  obtain⟨u,r,l⟩:=hl i x v e1 e2 e3
  refine⟨u,r,?_⟩
  rcases l with l | ⟨k,c,e,z⟩
  ·exact .inl l
  ·exact .inr ⟨k,c,e,cellK x c e _ z⟩
 ·obtain⟨v,z⟩:=I.cell x c e
  exact⟨v,cellK x c e v z⟩
 ·obtain⟨m,⟨o,_,_,ho,_⟩,_⟩:=I.loc
  exact free _ o (fun z=>(hch _ z).2.1 rfl) ho I.free
 ·obtain⟨v,o,ho,hd⟩:=I.cell x c e
  exact free c o (fun z=>(hch c z).2.2.1 x c e rfl) ho (I.freeC x c e)
 ·obtain⟨e,n,ne,nf,d⟩:=I.pin p hp
  have nch:p.1∉ch:=fun z=>(hch p.1 z).2.2.2 p hp rfl
  exact⟨keep p.1 p.2 ne nf nch e n,free p.1 p.2 nch e n,ne,nf,d⟩
theorem Inv.un{t':Nat}(I:Inv X pins σ H s)(u:Un X.fs [] H H' s.heap h')(hok:HOk X.prog X.w H' h'):Inv X pins σ H' { s with heap:=h',toks:=t' }:=by
 obtain⟨m,⟨o,es,ep,ho,r⟩,_⟩:=id I.loc
 obtain⟨sl,hL⟩:=u.any ho I.free (by simp)
 exact I.step (g':=s.gens) (d':=s.drawn) (ch:=[]) (fun _ z=>nomatch z) (fun b o _ hb _ e n=>u.keep b o e n hb (by simp)) (fun b o _ hb _ e n=>u.slot b o e n hb (by simp)) (fun b o _ e n=>u.free b o e n (by simp)) (fun b o _ e=>u.there b o e (by simp)) u.tups u.frzs u.tbls (fun m' hm=>by
  obtain⟨o',es',ep',ho',r'⟩:=hm
  rw [ho] at ho';cases ho'
  exact⟨_,es',ep',hL,r'⟩) hok I.bare
theorem Inv.call{g':Array GenState}{t':Nat}{d':Drawn}{ch:List Addr}(I:Inv X pins σ H s)(u:Un (frs X.stack) ch H H' s.heap h')(hok:HOk X.prog X.w H' h')(hg:AllBare g')
  (hch:∀ b∈ch,(b∈X.ex\/X.s₀.heap.objs.size<=b)/\b≠X.env.locals/\(∀ x c,X.env.cells.lookup x=some c->c≠b)/\∀ p∈X.pn++pins,p.1≠b) :
  Inv X pins σ H' { s with heap:=h',gens:=g',drawn:=d',toks:=t' }:=by
 obtain⟨m,⟨o,es,ep,ho,r⟩,_⟩:=id I.loc
 obtain⟨sl,hL⟩:=u.any ho I.free fun z=>(hch _ z).2.1 rfl
 exact I.step (ch:=ch) hch (fun b o hL hb hc e n=>u.keep b o e n (fun z=>(List.mem_cons.mp (I.stkSub b z)).elim hL hb) hc) (fun b o _ _ hc e n=>u.any e n hc) (fun b o hc e n=>u.free b o e n hc) (fun b o hc e=>u.there b o e hc) u.tups u.frzs u.tbls (fun m' hm=>by
  obtain⟨o',es',ep',ho',r'⟩:=hm
  rw [ho] at ho';cases ho'
  exact⟨_,es',ep',hL,r'⟩) hok hg
theorem Inv.turned{t':Nat}{it:Addr}(I:Inv X pins σ H s)(k:∀ b o,b≠it->s.heap.get? b=some o->h'.get? b=some o)(hn:H it=none)(hL:it≠X.env.locals)
  (h1:it∈X.ex\/X.s₀.heap.objs.size<=it) (h2:∀ x c,X.env.cells.lookup x=some c->c≠it) (h3:∀ p∈X.pn++pins,p.1≠it):Inv X pins σ H { s with heap:=h',toks:=t' }:=by
 have nit:∀ b u,H b=some u->b≠it:=fun b u e z=>by rw [z,hn] at e;cases e
 refine I.step (g':=s.gens) (d':=s.drawn) (ch:=[it]) (fun b hb=>?_) (fun b o _ _ hc e _=>k b o (fun z=>hc (by simp [z])) e) (fun b o _ _ hc e _=>⟨o.slots,k b o (fun z=>hc (by simp [z])) e⟩) (fun _ _ _ _ n=>n)
  (fun b o hc e=>⟨o,k b o (fun z=>hc (by simp [z])) e⟩) (fun _ _ e=>e) (fun _ _ _ e=>e) (fun b ps e=>⟨#[],by rw [e];simp⟩) (fun m hm=>?_) (fun b u e=>?_) I.bare
 ·have e:b=it:=by simpa using hb
  subst e
  exact⟨h1,hL,h2,h3⟩
 ·obtain⟨o,es,ep,ho,r⟩:=hm
  exact⟨o,es,ep,k _ o (Ne.symm hL) ho,r⟩
 ·refine (I.hok b u e).stay (fun c v hc q=>k c v ?_ q) (fun _ q=>q) fun _ _ q=>q
  rcases hc with z | z
  ·rw [z];exact nit b u e
  ·exact nit c _ z
theorem Inv.tok(I:Inv X pins σ H s)(t:Nat):Inv X pins σ H { s with toks:=t }:=I.un (h':=s.heap) (t':=t) Un.refl I.hok
theorem Inv.kept{t':Nat}(I:Inv X pins σ H s)(k:∀ b u,s.heap.get? b=some u->h'.get? b=some u):Inv X pins σ H { s with heap:=h',toks:=t' }:=I.un (Un.kept k) (I.hok.kept k)
theorem Inv.laid{a:Addr}{o:HO}{t':Nat}(I:Inv X pins σ H s)(k:∀ b u,s.heap.get? b=some u->h'.get? b=some u)(hp:s.heap.objs.size<=a)(new:ObjOk X.prog X.w (upd H a o) h' a o):
  Inv X pins σ (upd H a o) { s with heap:=h',toks:=t' }:=I.un (Un.laid k hp (I.hok.fresh hp)) (I.hok.laid k hp new)
theorem Inv.write{x e:Addr}{o:HO}{t':Nat}(I:Inv X pins σ H s)(mu:Mut (H x))(he:e=x\/H e=some (.own x))(k:∀ b u,b≠e->s.heap.get? b=some u->h'.get? b=some u)(heo:∃ u,h'.get? e=some u)
  (new:ObjOk X.prog X.w (upd H x o) h' x o):Inv X pins σ (upd H x o) { s with heap:=h',toks:=t' }:=I.un (Un.write mu he k heo) (I.hok.write mu he k heo new)
theorem Inv.pins_of{pins':List (Addr×Obj)}(I:Inv X pins σ H s)(h:∀ p∈pins',s.heap.get? p.1=some p.2/\H p.1=none/\p.1≠X.env.locals/\p.1∉X.fs/\∀ v,p.2.data≠.cell v):Inv X pins' σ H s:=
 ⟨I.ok,I.os,I.bare,I.base,I.loc,I.cell,I.free,I.freeC,fun p hp=>(List.mem_append.mp hp).elim (fun z=>I.pin p (List.mem_append_left _ z)) (h p),I.hok,I.len⟩
theorem nodup_ix{N:List Str}(hN:N.Nodup){i j:Nat}{x:Str}(a:N[i]? = some x)(b:N[j]? = some x):i=j:=by
 obtain⟨h1,e1⟩:=List.getElem?_eq_some_iff.mp a
 obtain⟨h2,e2⟩:=List.getElem?_eq_some_iff.mp b
 exact (List.getElem_inj hN).mp (e1.trans e2.symm)
theorem store_ok2{M:Model}{A:Around}{E:Value->Shared->Prop}{i:Nat}{x:Str}{v:V}{u:Value}{Q:Unit->Shared->Prop}(I:Inv X pins σ H s)(hN:X.N.Nodup)(hi:X.N[i]? = some x)(hx:Loc X.env.scope x)(r:RelV v u)
  (h:∀ s',Inv X pins (σ.set i (some v)) H s'->(∃ a,Heap.SameBut a s.heap s'.heap/\(a=X.env.locals\/X.env.cells.lookup x=some a))->Q () s') (hf:X.fn x=true\/X.env.scope.names.lookup x=some .local:=by first | exact .inl rfl | exact .inr rfl | assumption):wpAny M A (storeName X.env x u) Q E s:=by
 obtain⟨m,hn,hl⟩:=id I.loc
 have hcls:(X.env.scope.kind==.class || (X.env.scope.kind==.module&&X.env.locals != X.env.globals))=false:=by rw [I.ok.kind];rfl
 have hiσ:i<σ.length:=by rw [I.len];exact (List.getElem?_eq_some_iff.mp hi).1
 have cne:=I.cne
 have tracked:∀ {a:Addr} {h':Heap},(∃ o,s.heap.get? a=some o/\H a=none)->Heap.SameBut a s.heap h'->HOk X.prog X.w H h':=fun {a h'} ha hs b ob e=>by
  obtain⟨_,_,hfree⟩:=ha
  refine (I.hok b ob e).stay (fun c w' hc q=>(hs.2 c ?_).trans q) (fun _ q=>q) fun _ _ q=>q
  rintro rfl
  rcases hc with rfl | hc
  ·rw [hfree] at e;cases e
  ·rw [hfree] at hc;cases hc
 rcases hx with hk | hk
 ·refine wpAny_storeName_local hk hn (fun h' hn' hs=>?_) hcls
  obtain⟨oL,_,_,hoL,_⟩:=id hn
  refine h _ ⟨I.ok,I.os,I.bare,⟨fun b o e n hb hx=>?_,fun b o e n hb hx=>?_,I.base.free,fun b o e hx=>?_,I.base.tups,I.base.frzs,I.base.tbls⟩,⟨_,hn',fun j y v' e1 e2 e3=>?_⟩,fun y c e=>?_,I.free,I.freeC,fun p hp=>?_,tracked ⟨oL,hoL,I.free⟩ hs,by simpa using I.len⟩ ⟨_,hs,.inl rfl⟩
  ·exact (hs.2 b (Nat.ne_of_lt (Nat.lt_of_lt_of_le (Heap.lt_size e) I.ok.above))).trans (I.base.keep b o e n hb hx)
  ·obtain⟨sl,e1⟩:=I.base.slot b o e n hb hx
   exact⟨sl,(hs.2 b (Nat.ne_of_lt (Nat.lt_of_lt_of_le (Heap.lt_size e) I.ok.above))).trans e1⟩
  ·obtain⟨o',e1⟩:=I.base.there b o e hx
   exact⟨o',(hs.2 b (Nat.ne_of_lt (Nat.lt_of_lt_of_le (Heap.lt_size e) I.ok.above))).trans e1⟩
  ·by_cases hj:j=i
   ·subst hj
    rw [hi] at e1;cases e1
    rw [List.getElem?_set_self hiσ] at e2
    cases e2
    exact⟨u,r,.inl ⟨hk,by simp⟩⟩
   ·rw [List.getElem?_set_ne (Ne.symm hj)] at e2
    obtain⟨u',r',q⟩:=hl j y v' e1 e2 e3
    refine⟨u',r',?_⟩
    rcases q with ⟨k,e⟩ | ⟨k,c,e,z⟩
    ·refine .inl ⟨k,?_⟩
     have:y≠x:=fun e=>hj (nodup_ix hN e1 (e▸hi))
     simp [this,e]
    ·exact .inr ⟨k,c,e,z.sameBut hs (cne y c e)⟩
  ·obtain⟨w',z⟩:=I.cell y c e
   exact⟨w',z.sameBut hs (cne y c e)⟩
  ·obtain⟨e,n,ne,nf,d⟩:=I.pin p hp
   exact⟨(hs.2 p.1 ne).trans e,n,ne,nf,d⟩
 ·have hfn:X.fn x=true:=by
   rcases hf with z | z
   ·exact z
   ·rw [z] at hk;cases hk
  obtain⟨c,hc⟩:=I.ok.has x (.inl hk)
  obtain⟨w',z⟩:=I.cell x c hc
  refine wpAny_storeName_cell I.ok.kind hk hc z (fun h' hc' hs=>?_)
  obtain⟨oc,hoc,hocd⟩:=id z
  refine h { s with heap:=h' } ⟨I.ok,I.os,I.bare,⟨fun b o e n hb hx=>?_,fun b o e n hb hx=>?_,I.base.free,fun b o e hx=>?_,I.base.tups,I.base.frzs,I.base.tbls⟩,⟨m,hn.sameBut hs (Ne.symm (cne x c hc)),fun j y v' e1 e2 e3=>?_⟩,fun y c' e=>?_,I.free,I.freeC,fun p hp=>?_,tracked ⟨oc,hoc,I.freeC x c hc⟩ hs,by simpa using I.len⟩ ⟨c,hs,.inr hc⟩
  ·exact (hs.2 b (Nat.ne_of_lt (Nat.lt_of_lt_of_le (Heap.lt_size e) (I.ok.cab x c hfn hc)))).trans (I.base.keep b o e n hb hx)
  ·obtain⟨sl,e1⟩:=I.base.slot b o e n hb hx
   exact⟨sl,(hs.2 b (Nat.ne_of_lt (Nat.lt_of_lt_of_le (Heap.lt_size e) (I.ok.cab x c hfn hc)))).trans e1⟩
  ·obtain⟨o',e1⟩:=I.base.there b o e hx
   exact⟨o',(hs.2 b (Nat.ne_of_lt (Nat.lt_of_lt_of_le (Heap.lt_size e) (I.ok.cab x c hfn hc)))).trans e1⟩
  ·by_cases hj:j=i
   ·subst hj
    rw [hi] at e1;cases e1
    rw [List.getElem?_set_self hiσ] at e2
    cases e2
    exact⟨u,r,.inr ⟨.inl hk,c,hc,hc'⟩⟩
   ·rw [List.getElem?_set_ne (Ne.symm hj)] at e2
    obtain⟨u',r',q⟩:=hl j y v' e1 e2 e3
    refine⟨u',r',?_⟩
    rcases q with q | ⟨k,c',e,z'⟩
    ·exact .inl q
    ·refine .inr ⟨k,c',e,z'.sameBut hs ?_⟩
     rintro rfl
     exact hj (nodup_ix hN e1 (I.ok.inj _ _ _ e hc▸hi))
  ·by_cases hcc:c'=c
   ·subst hcc;exact⟨_,hc'⟩
   ·obtain⟨w2,z2⟩:=I.cell y c' e
    exact⟨w2,z2.sameBut hs hcc⟩
  ·obtain⟨e,n,ne,nf,d⟩:=I.pin p hp
   refine⟨(hs.2 p.1 ?_).trans e,n,ne,nf,d⟩
   intro q
   rw [q,hoc] at e
   have q':oc=p.2:=Option.some.inj e
   exact d w' (by rw [<-q'];exact hocd)
theorem store_ok{M:Model}{A:Around}{E:Value->Shared->Prop}{i:Nat}{x:Str}{v:V}{u:Value}{Q:Unit->Shared->Prop}(I:Inv X pins σ H s)(hN:X.N.Nodup)(hi:X.N[i]? = some x)(hx:Loc X.env.scope x)(r:RelV v u)
  (h:∀ s',Inv X pins (σ.set i (some v)) H s'->Q () s') (hf:X.fn x=true\/X.env.scope.names.lookup x=some .local:=by first | exact .inl rfl | exact .inr rfl | assumption):wpAny M A (storeName X.env x u) Q E s:=
 store_ok2 I hN hi hx r (fun s' I' _=>h s' I') hf
theorem Inv.call'{s':Shared}{ch:List Addr}(I:Inv X pins σ H s)(ho:s'.os=s.os)(u:Un (frs X.stack) ch H H' s.heap s'.heap)(hok:HOk X.prog X.w H' s'.heap)(hg:AllBare s'.gens)
  (hch:∀ b∈ch,(b∈X.ex\/X.s₀.heap.objs.size<=b)/\b≠X.env.locals/\(∀ x c,X.env.cells.lookup x=some c->c≠b)/\∀ p∈X.pn++pins,p.1≠b):Inv X pins σ H' s':=by
 obtain⟨h',g',d',t',o'⟩:=s'
 have e:o'=s.os:=ho
 subst e
 exact I.call (g':=g') (t':=t') (d':=d') u hok hg hch
end
abbrev XK:=Value->Option Addr->Hp->Prop
abbrev St:=List (Option V)
abbrev VK:=V->Hp->Prop
abbrev TE:=St->Hp->VK->Prop
abbrev TT:=St->Hp->(Bool->Hp->Prop)->Prop
abbrev TA:=St->Hp->(List V->Hp->Prop)->Prop
structure Ends where
 nx:St->Hp->Prop
 rt:VK
 bk:St->Hp->Prop:=fun _ _=>False
 ct:St->Hp->Prop:=fun _ _=>False
abbrev TS:=Ends->St->Hp->Prop
def EP(X:Cx)(pins:List (Addr×Obj))(σ:St)(Q:VK)(u:Value)(s':Shared):Prop:=∃ v H',Inv X pins σ H' s'/\RelV v u/\Q v H'
def TP(X:Cx)(pins:List (Addr×Obj))(σ:St)(Q:Bool->Hp->Prop)(b:Bool)(s':Shared):Prop:=∃ H',Inv X pins σ H' s'/\Q b H'
def AP(X:Cx)(pins:List (Addr×Obj))(σ:St)(Q:List V->Hp->Prop)(us:List Value)(s':Shared):Prop:=∃ vs H',Inv X pins σ H' s'/\Vals vs us/\Q vs H'
def SP(X:Cx)(pins:List (Addr×Obj))(D:Ends)(f:Flow)(s':Shared):Prop:=
 match f with
 | .next=>∃ σ' H',Inv X pins σ' H' s'/\D.nx σ' H'
 | .brk=>∃ σ' H',Inv X pins σ' H' s'/\D.bk σ' H'
 | .cont=>∃ σ' H',Inv X pins σ' H' s'/\D.ct σ' H'
 | .ret u=>∃ v σ' H',Inv X pins σ' H' s'/\RelV v u/\D.rt v H'
def PE(X:Cx)(e:Expr)(t:TE):Prop:=
 ∀ (pins:List (Addr×Obj)) (s:Shared) (σ:St) (H:Hp) (Q:VK),Inv X pins σ H s->t σ H Q->wpAny (model X.prog X.w) X.A (eval e X.env) (EP X pins σ Q) X.xe s
def PT(X:Cx)(e:Expr)(t:TT):Prop:=
 ∀ (pins:List (Addr×Obj)) (s:Shared) (σ:St) (H:Hp) (Q:Bool->Hp->Prop),Inv X pins σ H s->t σ H Q->wpAny (model X.prog X.w) X.A (isTrue e X.env (eval e X.env)) (TP X pins σ Q) X.xe s
def PW(X:Cx)(e:Expr)(t:TT):Prop:=
 ∀ (whole:Sem Value) (pins:List (Addr×Obj)) (s:Shared) (σ:St) (H:Hp) (Q:Bool->Hp->Prop),Inv X pins σ H s->t σ H Q->wpAny (model X.prog X.w) X.A (isTrue e X.env whole) (TP X pins σ Q) X.xe s
theorem PW.pt{X:Cx}{e:Expr}{t:TT}(h:PW X e t):PT X e t:=h _
def PA(X:Cx)(es:List Expr)(t:TA):Prop:=
 ∀ (pos:Pos) (pins:List (Addr×Obj)) (s:Shared) (σ:St) (H:Hp) (Q:List V->Hp->Prop),Inv X pins σ H s->t σ H Q->wpAny (model X.prog X.w) X.A (spliced (backTo pos (starEach es X.env))) (AP X pins σ Q) X.xe s
def PS(X:Cx)(st:Stmt)(t:TS):Prop:=
 ∀ (pins:List (Addr×Obj)) (s:Shared) (σ:St) (H:Hp) (D:Ends),Inv X pins σ H s->t D σ H->wpAny (model X.prog X.w) X.A (exec st X.env) (SP X pins D) X.xe s
def PSs(X:Cx)(st:List Stmt)(t:TS):Prop:=
 ∀ (pins:List (Addr×Obj)) (s:Shared) (σ:St) (H:Hp) (D:Ends),Inv X pins σ H s->t D σ H->wpAny (model X.prog X.w) X.A (execs st X.env) (SP X pins D) X.xe s
theorem thn{α:Type}{t:Sem α}{Q Q':α->Shared->Prop}{M:Model}{A:Around}{E:Value->Shared->Prop}{s:Shared}(h:wpAny M A t Q E s)(hQ:∀ a s,Q a s->Q' a s):wpAny M A t Q' E s:=wpAny_mono h hQ fun _ _ x=>x
end L2
namespace L2
open PySem PySem.Spec PyProof.Rows
section
variable {X:Cx}
theorem bin{a b:Expr}{ta tb:TE}(ha:PE X a ta)(hb:PE X b tb){pins:List (Addr×Obj)}{s:Shared}{σ:St}{H:Hp}{R:V->V->Hp->Prop}(I:Inv X pins σ H s)(h:ta σ H fun x H1=>tb σ H1 fun y H2=>R x y H2)
  {α:Type} {Q:α->Shared->Prop} {f:Value->Value->Sem α}
  (hf:∀ v u s2 x y H2,Inv X pins σ H2 s2->RelV x v->RelV y u->R x y H2->wpAny (model X.prog X.w) X.A (f v u) Q X.xe s2) :
  wpAny (model X.prog X.w) X.A (eval a X.env) (fun v s₁=>wpAny (model X.prog X.w) X.A (eval b X.env) (fun u s₂=>wpAny (model X.prog X.w) X.A (f v u) Q X.xe s₂) X.xe s₁) X.xe s:=by
 refine thn (ha pins s σ H _ I h) fun v s1 ⟨x,H1,I1,r1,q1⟩=>?_
 refine thn (hb pins s1 σ H1 _ I1 q1) fun u s2 ⟨y,H2,I2,r2,q2⟩=>?_
 exact hf v u s2 x y H2 I2 r1 r2 q2
def tVar(i:Nat):TE:=fun σ H Q=>∃ v,σ[i]? = some (some v)/\Q v H
def tC(v:V):TE:=fun _ H Q=>Q v H
theorem pe_var {i:Nat} {x:Str} {pos:Pos} (hN:X.N[i]? = some x) (hv:Vis X.env.scope x) (hd:(x==("__debug__":Str))=false:=by decide) (hcd:(x==("__classdict__":Str))=false:=by decide):PE X (.Name x pos) (tVar i):=by
 intro pins s σ H Q I h
 obtain⟨v,e,h⟩:=h
 obtain⟨m,hn,hl⟩:=I.loc
 obtain⟨u,r,l⟩:=hl i x v hN e hv
 have fin:EP X pins σ Q u s:=⟨v,H,I,r,h⟩
 rcases l with ⟨hk,hm⟩ | ⟨hk,c,hc,hcell⟩
 ·exact wpAny_Name (wpAny_loadName_local I.ok.kind hk hn hm fin) hd
 ·rcases hk with hk | hk
  ·exact wpAny_Name (wpAny_loadName_cell I.ok.kind hk hc hcell fin) hd
  ·exact wpAny_Name (wpAny_loadName_free I.ok.kind hk hc hcell fin hcd) hd
theorem pe_int{i j pos}:PE X (.Constant (.int i) j pos) (tC (.int i)):=fun _ _ _ H _ I h=>wpAny_Constant_int ⟨.int i,H,I.tok _,⟨_,rfl⟩,h⟩
theorem pe_bl{b j pos}:PE X (.Constant (.bool b) j pos) (tC (.bl b)):=fun _ _ _ H _ I h=>Constant_bool ⟨.bl b,H,I,rfl,h⟩
theorem pe_non{j pos}:PE X (.Constant .none j pos) (tC .non):=fun _ _ _ H _ I h=>Constant_none ⟨.non,H,I,rfl,h⟩
theorem pe_str{x j pos}:PE X (.Constant (.str x) j pos) (tC (.str x)):=fun _ _ _ H _ I h=>Calls.Constant_str ⟨.str x,H,I.tok _,⟨_,rfl⟩,h⟩
def Gl(X:Cx)(x:Str):Prop:=X.env.kindOf x=some .globalImplicit
theorem ld_glob{E:Value->Shared->Prop}{pins:List (Addr×Obj)}{s:Shared}{σ:St}{H:Hp}{x:Str}{u:Value}{pos:Pos}{Q:Value->Shared->Prop}(I:Inv X pins σ H s)(hg:Gl X x)(hm:X.mg x=some u)(h:Q u s)
  (hd:(x==("__debug__":Str))=false:=by decide):wpAny (model X.prog X.w) X.A (eval (.Name x pos) X.env) Q E s:=
 Calls.Name_function_global I.ok.kind hg (Calls.loadGlobal_global (by rw [I.ok.glob];exact I.mod.glob.keeps I.bk) hm h) hd
theorem ld_blt{E:Value->Shared->Prop}{pins:List (Addr×Obj)}{s:Shared}{σ:St}{H:Hp}{x:Str}{u:Value}{pos:Pos}{Q:Value->Shared->Prop}(I:Inv X pins σ H s)(hg:Gl X x)(hm:X.mg x=none)(hv:bootBuiltins x=some u)(h:Q u s)
  (hn:x≠"__name__":=by decide) (hd:(x==("__debug__":Str))=false:=by decide):wpAny (model X.prog X.w) X.A (eval (.Name x pos) X.env) Q E s:=by
 obtain⟨mb,h1,h2⟩:=I.mod.blt
 exact Calls.Name_function_global I.ok.kind hg (Calls.loadGlobal_builtin (by rw [I.ok.glob];exact I.mod.glob.keeps I.bk) hm (by rw [I.ok.blt];exact h1.keeps I.bk) ((h2 x hn).trans hv) h) hd
theorem pe_glob {x:Str} {v:V} {u:Value} {pos:Pos} (hg:Gl X x) (hm:X.mg x=some u) (r:RelV v u) (hd:(x==("__debug__":Str))=false:=by decide):PE X (.Name x pos) (tC v):=
 fun _ _ _ H _ I h=>ld_glob I hg hm ⟨v,H,I,r,h⟩ hd
theorem pe_bltn {x:Str} {v:V} {u:Value} {pos:Pos} (hg:Gl X x) (hm:X.mg x=none) (hv:bootBuiltins x=some u) (r:RelV v u) (hn:x≠"__name__":=by decide) (hd:(x==("__debug__":Str))=false:=by decide):PE X (.Name x pos) (tC v):=
 fun _ _ _ H _ I h=>ld_blt I hg hm hv ⟨v,H,I,r,h⟩ hn hd
variable {a b:Expr} {ta tb:TE} {pos:Pos}
def PC(X:Cx)(op:CmpOp)(a b:Expr)(t:TE):Prop:=
 ∀ (pins:List (Addr×Obj)) (s:Shared) (σ:St) (H:Hp) (Q:VK),Inv X pins σ H s->t σ H Q →
  wpAny (model X.prog X.w) X.A (eval a X.env) (fun v s₁=>wpAny (model X.prog X.w) X.A (eval b X.env) (fun u s₂=>wpAny (model X.prog X.w) X.A (compareOp op v u) (EP X pins σ Q) X.xe s₂) X.xe s₁) X.xe s
theorem nobehind(b:Expr){op:CmpOp}(h:op≠.In)(h2:op≠.NotIn):behindInMarks op b=false:=by
 have e1:(op==CmpOp.In)=false:=by cases op<;>first | rfl | exact absurd rfl h
 have e2:(op==CmpOp.NotIn)=false:=by cases op<;>first | rfl | exact absurd rfl h2
 cases b<;>simp [behindInMarks,e1,e2]
def tB(t:TE):TT:=fun σ H Q=>t σ H fun x H1=>∃ c,x=.bl c/\Q c H1
theorem pt_cmp{op:CmpOp}{t:TE}(h:PC X op a b t)(h1:behindInMarks op b=false:=by first | exact nobehind _ (by decide) (by decide) | rfl):PT X (.Compare a [op] [b] pos) (tB t):=by
 intro pins s σ H Q I hw
 refine wpAny_isTrue_Compare1 (thn (h pins s σ H _ I hw) fun v s1 h1=>thn h1 fun u s2 h2=>thn h2 fun c s3 ⟨x,H1,I1,r1,q1⟩=>?_) h1
 obtain⟨d,rfl,q⟩:=q1
 cases r1
 exact wpAny_truthy_bool ⟨H1,I1,q⟩
theorem pt_val{e:Expr}{t:TE}(h:PE X e t)(he:∀ whole,isTrue e X.env whole=(do let v <-whole;standAt e.pos;holding [v] (truthy v)):=by intro _;rfl):PT X e (tB t):=by
 intro pins s σ H Q I hw
 refine isTrue_plain (thn (h pins s σ H _ I hw) fun v s1 ⟨x,H1,I1,r1,q1⟩=>?_) (he _)
 obtain⟨d,rfl,q⟩:=q1
 cases r1
 exact wpAny_truthy_bool ⟨H1,I1,q⟩
variable {tA tB':TT} {rest:List Expr}
def tAnd(t u:TT):TT:=fun σ H Q=>t σ H fun c H1=>if c=true then u σ H1 Q else Q false H1
def tOr(t u:TT):TT:=fun σ H Q=>t σ H fun c H1=>if c=true then Q true H1 else u σ H1 Q
def tNot(t:TT):TT:=fun σ H Q=>t σ H fun c H1=>Q (!c) H1
theorem pw_and1(ha:PT X a tA):PW X (.BoolOp .And [a] pos) tA:=by
 intro wh pins s σ H Q I h
 refine isTrue_and (thn (ha pins s σ H Q I h) fun c s1 e=>?_)
 cases c with
 | true=>exact isTrue_and_nil e
 | false=>exact e
theorem pw_or1(ha:PT X a tA):PW X (.BoolOp .Or [a] pos) tA:=by
 intro wh pins s σ H Q I h
 refine isTrue_or (thn (ha pins s σ H Q I h) fun c s1 e=>?_)
 cases c with
 | false=>exact isTrue_or_nil e
 | true=>exact e
theorem pw_and(ha:PT X a tA)(hb:PW X (.BoolOp .And (b::rest) pos) tB'):PW X (.BoolOp .And (a::b::rest) pos) (tAnd tA tB'):=by
 intro wh pins s σ H Q I h
 refine isTrue_and (thn (ha pins s σ H _ I h) fun c s1 ⟨H1,I1,q1⟩=>?_)
 cases c with
 | true=>exact hb wh pins s1 σ H1 Q I1 q1
 | false=>exact⟨H1,I1,q1⟩
theorem pw_or(ha:PT X a tA)(hb:PW X (.BoolOp .Or (b::rest) pos) tB'):PW X (.BoolOp .Or (a::b::rest) pos) (tOr tA tB'):=by
 intro wh pins s σ H Q I h
 refine isTrue_or (thn (ha pins s σ H _ I h) fun c s1 ⟨H1,I1,q1⟩=>?_)
 cases c with
 | true=>exact⟨H1,I1,q1⟩
 | false=>exact hb wh pins s1 σ H1 Q I1 q1
theorem pt_not(ha:PT X a tA):PT X (.UnaryOp .Not a pos) (tNot tA):=by
 intro pins s σ H Q I h
 exact isTrue_not (ha pins s σ H (fun c H1=>Q (!c) H1) I h)
def tAndV(ta tb:TE):TE:=fun σ H Q=>ta σ H fun x H1=>∃ c,x=.bl c/\if c=true then tb σ H1 Q else Q (.bl false) H1
def tOrV(ta tb:TE):TE:=fun σ H Q=>ta σ H fun x H1=>∃ c,x=.bl c/\if c=true then Q (.bl true) H1 else tb σ H1 Q
def tNotV(ta:TE):TE:=fun σ H Q=>ta σ H fun x H1=>∃ c,x=.bl c/\Q (.bl (!c)) H1
theorem pe_one{op}{t:TE}(h:PE X a t):PE X (.BoolOp op [a] pos) t:=fun pins s σ H Q I hw=>BoolOp_one (h pins s σ H Q I hw)
theorem pe_and(ha:PE X a ta)(hb:PE X (.BoolOp .And (b::rest) pos) tb):PE X (.BoolOp .And (a::b::rest) pos) (tAndV ta tb):=by
 intro pins s σ H Q I h
 refine BoolOp_and (thn (ha pins s σ H _ I h) fun v s1 ⟨x,H1,I1,r1,q1⟩=>?_)
 obtain⟨c,rfl,q1⟩:=q1
 cases r1
 refine wpAny_truthy_bool ?_
 cases c with
 | true=>exact hb pins s1 σ H1 Q I1 q1
 | false=>exact⟨.bl false,H1,I1,rfl,q1⟩
theorem pe_or(ha:PE X a ta)(hb:PE X (.BoolOp .Or (b::rest) pos) tb):PE X (.BoolOp .Or (a::b::rest) pos) (tOrV ta tb):=by
 intro pins s σ H Q I h
 refine BoolOp_or (thn (ha pins s σ H _ I h) fun v s1 ⟨x,H1,I1,r1,q1⟩=>?_)
 obtain⟨c,rfl,q1⟩:=q1
 cases r1
 refine wpAny_truthy_bool ?_
 cases c with
 | false=>exact hb pins s1 σ H1 Q I1 q1
 | true=>exact⟨.bl true,H1,I1,rfl,q1⟩
theorem pe_not(ha:PE X a ta):PE X (.UnaryOp .Not a pos) (tNotV ta):=by
 intro pins s σ H Q I h
 refine UnaryOp_ (thn (ha pins s σ H _ I h) fun v s1 ⟨x,H1,I1,r1,q1⟩=>?_)
 obtain⟨c,rfl,q1⟩:=q1
 cases r1
 exact not_of (wpAny_truthy_bool ⟨.bl (!c),H1,I1,rfl,q1⟩)
def tIf(t:TT)(ta tb:TE):TE:=fun σ H Q=>t σ H fun c H1=>if c=true then ta σ H1 Q else tb σ H1 Q
theorem pe_ifExp{c:Expr}(hc:PT X c tA)(ha:PE X a ta)(hb:PE X b tb):PE X (.IfExp c a b pos) (tIf tA ta tb):=by
 intro pins s σ H Q I h
 refine wpAny_IfExp (thn (hc pins s σ H _ I h) fun d s1 ⟨H1,I1,q1⟩=>?_)
 cases d with
 | true=>exact ha pins s1 σ H1 Q I1 q1
 | false=>exact hb pins s1 σ H1 Q I1 q1
end
end L2
namespace L2
open PySem PySem.Spec PyProof.Rows
def SqL(K:PySem.W.Frag)(H:Hp)(a:Addr)(xs:List V):Prop:=
 Rd H a (.lst xs) ∨
  ∃ (o:Obj) (its:Array Value) (n:Nat),K.lookup a=some o/\o.cls=.type "list"/\o.dict=none/\o.data=.seq its n/\its.size<=sizeLine/\Vals xs its.toList
def SqT(K:PySem.W.Frag)(H:Hp)(a:Addr)(xs:List V):Prop:=
 Rd H a (.tup xs) ∨
  ∃ (o:Obj) (its:Array Value) (n:Nat),K.lookup a=some o/\o.cls=.type "tuple"/\o.data=.seq its n/\its.size<=sizeLine/\Vals xs its.toList
def absV:Value->Option V
 | .none=>some .non
 | .bool b=>some (.bl b)
 | .int i _=>some (.int i)
 | .str x _=>some (.str x)
 | .bytes b _=>some (.byt b)
 | .float b _=>some (.flt b)
 | .ref a=>some (.ref a)
 | .type n=>some (.ty n)
 | _=>none
theorem RelV.abs{x:V}{u:Value}(r:RelV x u):absV u=some x:=by
 cases x with
 | non=>cases r;rfl
 | bl _=>cases r;rfl
 | int _=>obtain⟨t,rfl⟩:=r;rfl
 | str _=>obtain⟨t,rfl⟩:=r;rfl
 | byt _=>obtain⟨t,rfl⟩:=r;rfl
 | flt _=>obtain⟨t,rfl⟩:=r;rfl
 | ref _=>cases r;rfl
 | ty _=>cases r;rfl
theorem RelV.inj{x y:V}{u:Value}(r:RelV x u)(q:RelV y u):x=y:=Option.some.inj (r.abs.symm.trans q.abs)
theorem Vals.inj:∀ {xs ys:List V} {us:List Value},Vals xs us->Vals ys us->xs=ys
 | _,_,_,.nil,.nil=>rfl
 | _,_,_,.cons r t,.cons r' t'=>by rw [r.inj r',Vals.inj t t']
section
variable {X:Cx} {pins:List (Addr×Obj)} {σ:St} {H:Hp} {s:Shared} {a:Addr} {xs ys:List V}
theorem SqL.of{K:PySem.W.Frag}(h:H a=some (.lst xs)):SqL K H a xs:=.inl (.inl h)
theorem SqT.of{K:PySem.W.Frag}(h:H a=some (.tup xs)):SqT K H a xs:=.inl (.inl h)
theorem Inv.list(I:Inv X pins σ H s)(h:SqL X.K H a xs):∃ its:List Value,Vals xs its/\PlainL s.heap a its.toArray/\xs.length<=sizeLine:=by
 rcases h with h | ⟨o,its,n,hk,hc,hd,hs,hz,r⟩
 ·obtain⟨z,its,n,r,e⟩:=h.ok I.hok
  exact⟨its,r,⟨_,n,e,rfl,rfl,rfl⟩,z⟩
 ·refine⟨its.toList,r,⟨o,n,I.kIn a o hk,hc,hd,by simpa using hs⟩,?_⟩
  have e:=r.length
  simp only [Array.length_toList] at e
  omega
theorem Inv.tuple(I:Inv X pins σ H s)(h:SqT X.K H a xs):∃ its:List Value,Vals xs its/\IsTup s.heap a its.toArray/\xs.length<=sizeLine:=by
 rcases h with h | ⟨o,its,n,hk,hc,hs,hz,r⟩
 ·obtain⟨z,its,r,p⟩:=h.ok I.hok
  exact⟨its,r,p,z⟩
 ·refine⟨its.toList,r,⟨o,I.kIn a o hk,hc,n,by simpa using hs⟩,?_⟩
  have e:=r.length
  simp only [Array.length_toList] at e
  omega
theorem Inv.list_inj(I:Inv X pins σ H s)(h:SqL X.K H a xs)(h':SqL X.K H a ys):xs=ys:=by
 obtain⟨its,r,⟨o,n,e,_,_,d⟩,_⟩:=I.list h
 obtain⟨its',r',⟨o',n',e',_,_,d'⟩,_⟩:=I.list h'
 rw [e] at e';cases e'
 rw [d] at d'
 injection d' with d1 _
 have:its=its':=by simpa using congrArg Array.toList d1
 subst this
 exact r.inj r'
theorem Inv.tuple_inj(I:Inv X pins σ H s)(h:SqT X.K H a xs)(h':SqT X.K H a ys):xs=ys:=by
 obtain⟨its,r,⟨o,e,_,n,d⟩,_⟩:=I.tuple h
 obtain⟨its',r',⟨o',e',_,n',d'⟩,_⟩:=I.tuple h'
 rw [e] at e';cases e'
 rw [d] at d'
 injection d' with d1 _
 have:its=its':=by simpa using congrArg Array.toList d1
 subst this
 exact r.inj r'
end
abbrev Cx.wish (X:Cx) (E:Value->Shared->Prop):Cx:={ X with xe:=E }
abbrev Cx.nox (X:Cx):Cx:=X.wish fun _ _=>False
theorem Cx.Ok.wish{X:Cx}(ok:X.Ok)(E:Value->Shared->Prop):(X.wish E).Ok:=
 ⟨ok.mod,ok.kind,ok.glob,ok.blt,ok.above,ok.inj,ok.has,ok.cab,ok.hd,ok.frames,ok.stk,ok.exf,ok.bs,ok.bsz,ok.noex,ok.exfs,ok.funs,ok.frf⟩
theorem Cx.Ok.unwish{X:Cx}{E:Value->Shared->Prop}(ok:(X.wish E).Ok):X.Ok:=
 ⟨ok.mod,ok.kind,ok.glob,ok.blt,ok.above,ok.inj,ok.has,ok.cab,ok.hd,ok.frames,ok.stk,ok.exf,ok.bs,ok.bsz,ok.noex,ok.exfs,ok.funs,ok.frf⟩
section
variable {X:Cx} {pins:List (Addr×Obj)} {σ:St} {H:Hp} {s:Shared} {E:Value->Shared->Prop}
theorem Inv.wish(I:Inv X pins σ H s)(E:Value->Shared->Prop):Inv (X.wish E) pins σ H s:=⟨I.ok.wish E,I.os,I.bare,I.base,I.loc,I.cell,I.free,I.freeC,I.pin,I.hok,I.len⟩
theorem Inv.unwish(I:Inv (X.wish E) pins σ H s):Inv X pins σ H s:=⟨I.ok.unwish,I.os,I.bare,I.base,I.loc,I.cell,I.free,I.freeC,I.pin,I.hok,I.len⟩
theorem SP.unwish{D:Ends}{f:Flow}{s':Shared}(h:SP (X.wish E) pins D f s'):SP X pins D f s':=by
 cases f with
 | next=>obtain⟨σ',H',I,q⟩:=h;exact⟨σ',H',I.unwish,q⟩
 | brk=>obtain⟨σ',H',I,q⟩:=h;exact⟨σ',H',I.unwish,q⟩
 | cont=>obtain⟨σ',H',I,q⟩:=h;exact⟨σ',H',I.unwish,q⟩
 | ret u=>obtain⟨v,σ',H',I,r,q⟩:=h;exact⟨v,σ',H',I.unwish,r,q⟩
theorem PSs.nox{st:List Stmt}{t:TS}(h:PSs X.nox st t):PSs X st t:=fun pins s σ H D I hw=>
 wpAny_mono (h pins s σ H D (I.wish _) hw) (fun _ _ q=>q.unwish) fun _ _ z=>False.elim z
end
section
variable {X:Cx} {st:Stmt} {rest:List Stmt} {t u:TS} {e:Expr} {te:TE} {pos:Pos}
def tNext:TS:=fun D σ H=>D.nx σ H
def tSeq(t u:TS):TS:=fun D σ H=>t { D with nx:=u D } σ H
theorem pss_nil:PSs X [] tNext:=fun _ _ σ H _ I h=>wpAny_execs_nil ⟨σ,H,I,h⟩
theorem pss_cons(h1:PS X st t)(h2:PSs X rest u):PSs X (st::rest) (tSeq t u):=by
 intro pins s σ H D I h
 refine wpAny_execs_cons (thn (h1 pins s σ H { D with nx:=u D } I h) fun f s1 q=>?_)
 cases f with
 | next=>
  obtain⟨σ',H',I',q⟩:=q
  exact h2 pins s1 σ' H' D I' q
 | ret v=>exact q
 | brk=>exact q
 | cont=>exact q
theorem pss_one(h1:PS X st t):PSs X [st] t:=by
 intro pins s σ H D I h
 refine wpAny_execs_cons (thn (h1 pins s σ H D I h) fun f s1 q=>?_)
 cases f with
 | next=>exact wpAny_execs_nil q
 | ret v=>exact q
 | brk=>exact q
 | cont=>exact q
def tBreak:TS:=fun D σ H=>D.bk σ H
def tCont:TS:=fun D σ H=>D.ct σ H
theorem ps_break:PS X (.Break pos) tBreak:=fun _ _ σ H _ I h=>wpAny_Break ⟨σ,H,I,h⟩
theorem Inv.quiet{pins:List (Addr×Obj)}{σ:St}{H:Hp}{s:Shared}(I:Inv X pins σ H s):interactive X.env=false:=by simp [interactive,I.ok.kind]
def tDrop(te:TE):TS:=fun D σ H=>te σ H fun _ H1=>D.nx σ H1
theorem ps_expr(he:PE X e te)(hs:swapsWith e none pos.line X.env=pure false:=by rfl):PS X (.Expr e pos) (tDrop te):=by
 intro pins s σ H D I h
 exact wpAny_Expr_any (thn (he pins s σ H _ I h) fun v s1 ⟨x,H1,I1,r1,q1⟩=>⟨σ,H1,I1,q1⟩) I.quiet hs
def tRet(te:TE):TS:=fun D σ H=>te σ H D.rt
theorem ps_ret(he:PE X e te):PS X (.Return (some e) pos) (tRet te):=by
 intro pins s σ H D I h
 exact wpAny_Return_some (thn (he pins s σ H _ I h) fun v s1 ⟨x,H1,I1,r1,q1⟩=>⟨x,σ,H1,I1,r1,q1⟩)
def tRetN:TS:=fun D _ H=>D.rt .non H
def tIfS(c:TT)(t u:TS):TS:=fun D σ H=>c σ H fun b H1=>if b=true then t D σ H1 else u D σ H1
theorem ps_if{c:Expr}{a b:List Stmt}{tc:TT}(hc:PT X c tc)(ha:PSs X a t)(hb:PSs X b u):PS X (.If c a b pos) (tIfS tc t u):=by
 intro pins s σ H D I h
 refine wpAny_If (thn (hc pins s σ H _ I h) fun d s1 ⟨H1,I1,q1⟩=>?_)
 cases d with
 | true=>exact ha pins s1 σ H1 D I1 q1
 | false=>exact hb pins s1 σ H1 D I1 q1
def tNever:TS:=fun _ _ _=>False
theorem ps_never:PS X st tNever:=fun _ _ _ _ _ _ h=>h.elim
end
abbrev TG:=V->St->Hp->(St->Hp->Prop)->Prop
abbrev TGs:=List V->St->Hp->(St->Hp->Prop)->Prop
def PG(X:Cx)(target:Expr)(t:TG):Prop:=
 ∀ (pins:List (Addr×Obj)) (s:Shared) (σ:St) (H:Hp) (v:V) (u:Value) (Q:St->Hp->Prop),Inv X pins σ H s->RelV v u->t v σ H Q →
  wpAny (model X.prog X.w) X.A (assign target X.env u) (fun _ s'=>∃ σ' H',Inv X pins σ' H' s'/\Q σ' H') X.xe s
def PGs(X:Cx)(ts:List Expr)(t:TGs):Prop:=
 ∀ (pins:List (Addr×Obj)) (s:Shared) (σ:St) (H:Hp) (vs:List V) (us:List Value) (Q:St->Hp->Prop),Inv X pins σ H s->Vals vs us->t vs σ H Q →
  wpAny (model X.prog X.w) X.A (assignInOrder ((assignEach ts X.env).map (·.2)) us) (fun _ s'=>∃ σ' H',Inv X pins σ' H' s'/\Q σ' H') X.xe s
abbrev TSet:=V->V->V->Hp->(Hp->Prop)->Prop
def PSet(X:Cx)(t:TSet):Prop:=
 ∀ (pins:List (Addr×Obj)) (s:Shared) (σ:St) (H:Hp) (o i v:V) (ov iv u:Value) (Q:Hp->Prop),Inv X pins σ H s->RelV o ov->RelV i iv->RelV v u->t o i v H Q →
  wpAny (model X.prog X.w) X.A (setItem ov iv u) (fun _ s'=>∃ H',Inv X pins σ H' s'/\Q H') X.xe s
abbrev TIp:=V->V->Hp->VK->Prop
section
variable {X:Cx} {pos:Pos}
def gName(i:Nat):TG:=fun v σ H Q=>Q (σ.set i (some v)) H
theorem pg_name{i:Nat}{x:Str}(hN:X.N.Nodup)(hi:X.N[i]? = some x)(hx:Loc X.env.scope x)(hf:X.fn x=true\/X.env.scope.names.lookup x=some .local:=by first | exact .inl rfl | exact .inr rfl | assumption):PG X (.Name x pos) (gName i):=by
 intro pins s σ H v u Q I r h
 exact wpAny_assign_Name (store_ok I hN hi hx r (fun s' I'=>⟨_,H,I',h⟩) hf)
def gNil:TGs:=fun vs σ H Q=>vs=[]/\Q σ H
def gCons(t:TG)(u:TGs):TGs:=fun vs σ H Q=>∃ v r,vs=v::r/\t v σ H fun σ' H'=>u r σ' H' Q
theorem pgs_nil:PGs X [] gNil:=by
 intro pins s σ H vs us Q I r h
 obtain⟨e,h⟩:=h
 subst e
 cases r
 exact assignInOrder_nil ⟨σ,H,I,h⟩
theorem pgs_cons{e:Expr}{es:List Expr}{t:TG}{u:TGs}(h1:PG X e t)(h2:PGs X es u)
  (hs:(assignEach (e::es) X.env).map (·.2)=assign e X.env::(assignEach es X.env).map (·.2):=by rfl):PGs X (e::es) (gCons t u):=by
 intro pins s σ H vs us Q I r h
 obtain⟨v,vr,e1,h⟩:=h
 subst e1
 cases r with
 | cons r rr=>
  rw [hs]
  refine assignInOrder_cons (thn (h1 pins s σ H _ _ _ I r h) fun _ s1 ⟨σ1,H1,I1,q1⟩=>?_)
  exact h2 pins s1 σ1 H1 _ _ Q I1 rr q1
def gTup(K:PySem.W.Frag)(n:Nat)(t:TGs):TG:=fun v σ H Q=>∃ a xs,v=.ref a/\SqT K H a xs/\xs.length=n/\t xs σ H Q
theorem pg_tup{es:List Expr}{k:Nat}{t:TGs}{n:Nat}(hc:X.calm=true)(h:PGs X es t)
  (hn:(assignEach es X.env).length=n:=by rfl) (hst:(assignEach es X.env).findIdx? (·.1)=none:=by rfl):PG X (.Tuple es k pos) (gTup X.K n t):=by
 intro pins s σ H v u Q I r hw
 obtain⟨a,xs,e1,hq,hl,hw⟩:=hw
 subst e1
 cases r
 obtain⟨its,rv,ht,hz⟩:=I.tuple hq
 refine assign_Tuple_tuple (I.ok.hd hc) ht (by simp [hn,<-hl,rv.length]) hst fun h' hx=>?_
 have I1:Inv X pins σ H { s with heap:=h' }:=I.kept (t':=s.toks) fun b o e=>hx b o (Nat.ne_of_lt (Heap.lt_size e)) e
 exact h pins _ σ H xs _ Q I1 (by simpa using rv) hw
def gSub(to ti:TE)(t:TSet):TG:=fun v σ H Q=>to σ H fun o H1=>ti σ H1 fun i H2=>t o i v H2 fun H3=>Q σ H3
theorem pg_sub{o i:Expr}{to ti:TE}{t:TSet}(ho:PE X o to)(hi:PE X i ti)(hs:PSet X t)
  (ha:∀ v,assign (.Subscript o i pos) X.env v=(do
   let ov <-holding [v] (eval o X.env)
   let iv <-holding [v,ov] (eval i X.env)
   standAt pos
   holding [v,ov,iv] (setItem ov iv v)
   release [v,ov,iv] []):=by intro _;rfl):PG X (.Subscript o i pos) (gSub to ti t):=by
 intro pins s σ H v u Q I r h
 rw [ha]
 refine wpAny_bind (wpAny_holding (thn (ho pins s σ H _ I h) fun ov s1 ⟨x,H1,I1,r1,q1⟩=>?_))
 refine wpAny_bind (wpAny_holding (thn (hi pins s1 σ H1 _ I1 q1) fun iv s2 ⟨y,H2,I2,r2,q2⟩=>?_))
 refine wpAny_bind (wpAny_standAt (wpAny_bind (wpAny_holding (thn (hs pins s2 σ H2 x y v ov iv u _ I2 r1 r2 r q2) fun _ s3 ⟨H3,I3,q3⟩=>?_))))
 exact wpAny_release ⟨σ,H3,I3,q3⟩
def tAsg(te:TE)(g:TG):TS:=fun D σ H=>te σ H fun x H1=>g x σ H1 D.nx
theorem ps_asg{tg e:Expr}{te:TE}{g:TG}(he:PE X e te)(hg:PG X tg g)(hs:swapsWithSole [tg] e pos.line X.env=pure false:=by rfl)(hw:swappedStores [tg] e X.env=pure none:=by rfl)
  (h1:(assignEach [tg] X.env).map (·.2)=[assign tg X.env]:=by rfl):PS X (.Assign [tg] e pos) (tAsg te g):=by
 intro pins s σ H D I h
 refine wpAny_Assign_stores (thn (he pins s σ H _ I h) fun v s1 ⟨x,H1,I1,r1,q1⟩=>?_) hs hw
 rw [h1]
 exact thn (hg pins s1 σ H1 x v _ I1 r1 q1) fun _ s2 q=>q
theorem ps_set{i:Nat}{x:Str}{e:Expr}{te:TE}{pos':Pos}(hN:X.N.Nodup)(hi:X.N[i]? = some x)(hx:Loc X.env.scope x)(he:PE X e te)(hs:swapsWith e (some (.Name x pos')) pos.line X.env=pure false:=by rfl)(hf:X.fn x=true\/X.env.scope.names.lookup x=some .local:=by first | exact .inl rfl | exact .inr rfl | assumption):
  PS X (.Assign [.Name x pos'] e pos) (tAsg te (gName i)):=by
 intro pins s σ H D I h
 refine wpAny_Assign_Name (thn (he pins s σ H _ I h) fun v s1 ⟨y,H1,I1,r1,q1⟩=>?_) hs
 exact store_ok I1 hN hi hx r1 (fun s2 I2=>⟨_,H1,I2,q1⟩) hf
def tAug(i:Nat)(te:TE)(ti:TIp):TS:=fun D σ H=>∃ x,σ[i]? = some (some x)/\te σ H fun y H1=>ti x y H1 fun z H2=>D.nx (σ.set i (some z)) H2
def ipI(f:Int->Int->Int):TIp:=fun x y H Q=>∃ i j,x=.int i/\y=.int j/\Q (.int (f i j)) H
end
section
variable {X:Cx} {pos:Pos}
def tWhile(c:TT)(tb:TS):TS:=fun D σ H=>∃ W:Nat->St->Hp->Prop,(∃ m,W m σ H)/\∀ m σ H,W m σ H →
 c σ H fun b H1=>if b=true then ∃ N:St->Hp->Prop,(∀ σ' H',N σ' H'->∃ m',m'<m/\W m' σ' H')/\tb { D with nx:=N,ct:=N,bk:=D.nx } σ H1 else D.nx σ H1
theorem ps_while{c:Expr}{body:List Stmt}{tc:TT}{tb:TS}(hp:PassesOwn (model X.prog X.w) X.A X.env X.xe)(hc:PT X c tc)(hb:PSs X body tb):PS X (.While c body [] pos) (tWhile tc tb):=by
 intro pins s σ H D I h
 obtain⟨W,⟨m0,w0⟩,turn⟩:=h
 refine wpAny_While (codeAny_whileLoop (fun n s'=>∃ σ' H',Inv X pins σ' H' s'/\W n σ' H') ?_ m0 ⟨σ,H,I,w0⟩)
 rintro n s1 ⟨σ1,H1,I1,w1⟩
 refine wpAny_passesOwn hp (thn (hc pins s1 σ1 H1 _ I1 (turn n σ1 H1 w1)) fun b s2 ⟨H2,I2,q2⟩=>?_)
 cases b with
 | true=>
  obtain⟨N,hN,q2⟩:=q2
  rw [if_pos rfl]
  refine wpAny_passesOwn hp (thn (hb pins s2 σ1 H2 _ I2 q2) fun f s3 q3=>?_)
  cases f with
  | next=>
   obtain⟨σ3,H3,I3,n3⟩:=q3
   obtain⟨m',hm,w3⟩:=hN σ3 H3 n3
   exact⟨m',hm,σ3,H3,I3,w3⟩
  | cont=>
   obtain⟨σ3,H3,I3,n3⟩:=q3
   obtain⟨m',hm,w3⟩:=hN σ3 H3 n3
   exact⟨m',hm,σ3,H3,I3,w3⟩
  | brk=>exact q3
  | ret v=>exact q3
 | false=>
  rw [if_neg Bool.false_ne_true]
  exact wpAny_execs_nil ⟨σ1,H2,I2,q2⟩
end
structure It where
 go:Nat->Hp->Prop
 yld:Nat->Hp->V->Hp->Prop
 stop:Nat->Hp->Prop
def FpOk(X:Cx)(pins:List (Addr×Obj))(H:Hp)(b:Addr):Prop:=
 H b=none/\b≠X.env.locals/\b∉X.fs/\(b∈X.ex\/X.s₀.heap.objs.size<=b)/\(∀ x c,X.env.cells.lookup x=some c->c≠b)/\∀ p∈X.pn++pins,p.1≠b
theorem Inv.fpOk{X:Cx}{pins:List (Addr×Obj)}{σ:St}{H H':Hp}{s:Shared}{b:Addr}(I:Inv X pins σ H s)(hb:s.heap.objs.size<=b)(hn:H' b=none):FpOk X pins H' b:=by
 refine⟨hn,Nat.ne_of_gt (Nat.lt_of_lt_of_le I.lt hb),I.nofs hb,.inr (Nat.le_trans I.sz hb),fun x c e z=>?_,fun p hp z=>?_⟩
 ·obtain⟨v,q⟩:=I.cell x c e
  exact absurd (Nat.lt_of_lt_of_le q.lt (by rw [z];exact hb)) (Nat.lt_irrefl _)
 ·exact absurd (Nat.lt_of_lt_of_le (Heap.lt_size (I.pin p hp).1) (by rw [z];exact hb)) (Nat.lt_irrefl _)
structure Turn (P : Program) (w : World) (K : PySem.W.Frag) (tg : Expr) (J : It) (fp : List Addr) (it : Addr) (tn : Nat → Heap → Prop) : Prop where
  mem : it ∈ fp
  obj : ∀ i h, tn i h → ∀ b ∈ fp, ∃ o, h.get? b = some o ∧ ∀ v, o.data ≠ .cell v
  keep : ∀ i h h', tn i h → (∀ b ∈ fp, ∀ o, h.get? b = some o → h'.get? b = some o) → tn i h'
  item : ∀ (X : Cx), X.prog = P → X.w = w → X.K = K → X.calm = true → ∀ (i : Nat) (pins : List (Addr × Obj)) (s : Shared) (σ : St) (H : Hp) (E : Value → Shared → Prop), Inv X pins σ H s → (∀ b ∈ fp, FpOk X pins H b) → tn i s.heap → J.go i H →
    wpAny (model P w) X.A (pyNext (.ref it)) (fun r s1 => ∃ u, r = some u ∧
      wpAny (model P w) X.A (letOwnedTupleGo tg (.ref it) u) (fun _ s2 => ∃ x H', Inv X pins σ H' s2 ∧ RelV x u ∧ J.yld i H x H' ∧ tn (i + 1) s2.heap ∧ ∀ b ∈ fp, H' b = none) E s1) E s
  done : ∀ (X : Cx), X.prog = P → X.w = w → X.K = K → X.calm = true → ∀ (i : Nat) (pins : List (Addr × Obj)) (s : Shared) (σ : St) (H : Hp) (E : Value → Shared → Prop), Inv X pins σ H s → (∀ b ∈ fp, FpOk X pins H b) → tn i s.heap → J.stop i H →
    wpAny (model P w) X.A (pyNext (.ref it)) (fun r s1 => r = none ∧ Inv X pins σ H s1) E s
  self : ∀ (A : Around) (i : Nat) (s : Shared) (Q : Value → Shared → Prop) (E : Value → Shared → Prop), tn i s.heap → Q (.ref it) s → wpAny (model P w) A (pyIter (.ref it)) Q E s
abbrev TI:=St->Hp->(It->Hp->Prop)->Prop
def PIE(X:Cx)(pins:List (Addr×Obj))(σ:St)(tg:Expr)(R:It->Hp->Prop)(itv:Value)(s2:Shared):Prop:=
 ∃ (it:Addr) (fp:List Addr) (tn:Nat->Heap->Prop) (J:It) (H':Hp),itv=.ref it/\Inv X pins σ H' s2/\Turn X.prog X.w X.K tg J fp it tn/\tn 0 s2.heap/\(∀ b∈fp,FpOk X pins H' b)/\R J H'
def PI(X:Cx)(tg iter:Expr)(wi:TI):Prop:=
 ∀ (pins:List (Addr×Obj)) (s:Shared) (σ:St) (H:Hp) (R:It->Hp->Prop),Inv X pins σ H s->wi σ H R →
  wpAny (model X.prog X.w) X.A (eval iter X.env) (fun v s1=>wpAny (model X.prog X.w) X.A (pyIter v) (PIE X pins σ tg R) X.xe s1) X.xe s
theorem go_of {M : Model} {A : Around} {E : Value → Shared → Prop} {s : Shared} {tg : Expr} {it : Addr} {u : Value} {o : Obj} {n : String} {vs : Array Value} {Q : Unit → Shared → Prop} (ho : s.heap.get? it = some o) (hc : o.cls = .type n) (hd : o.data = .fields vs)
    (hn : ["enumerate", "zip", "dict_itemiterator", "dict_reverseitemiterator", "odict_iterator", "itertools.zip_longest", "itertools.pairwise"].contains n = false) (hQ : Q () s) : wpAny M A (letOwnedTupleGo tg (.ref it) u) Q E s := by
  unfold letOwnedTupleGo
  cases tg <;> first
    | exact wpAny_pure hQ
    | (cases u <;> first
        | exact wpAny_pure hQ
        | (refine wpAny_bind (wpAny_load ho ?_)
           rw [hc, hd]
           show wpAny M A (if (["enumerate", "zip", "dict_itemiterator", "dict_reverseitemiterator", "odict_iterator", "itertools.zip_longest", "itertools.pairwise"].contains n && vs[0]? == some (rawInt _)) = true then _ else _) Q E s
           rw [if_neg (by intro h; rw [hn, Bool.false_and] at h; cases h)]
           exact wpAny_pure hQ))
def Itl(K:PySem.W.Frag)(a:Addr):It:=
 ⟨fun i H=>∃ xs x,SqL K H a xs/\xs[i]? = some x,fun i H x H'=>H'=H/\∀ xs,SqL K H a xs->xs[i]? = some x,fun i H=>∃ xs,SqL K H a xs/\xs.length<=i⟩
def Itt(K:PySem.W.Frag)(a:Addr):It:=
 ⟨fun i H=>∃ xs x,SqT K H a xs/\xs[i]? = some x,fun i H x H'=>H'=H/\∀ xs,SqT K H a xs->xs[i]? = some x,fun i H=>∃ xs,SqT K H a xs/\xs.length<=i⟩
def Itr(lo:Int)(n:Nat):It:=⟨fun i _=>i<n,fun i H x H'=>H'=H/\x=.int (lo+i),fun i _=>n<=i⟩
theorem turn_list {P : Program} {w : World} {K : PySem.W.Frag} {tg : Expr} (a it : Addr) : Turn P w K tg (Itl K a) [it] it (fun i h => h.IsListIter it a i) where
  mem := by simp
  obj := fun i h st b hb => by
    have e : b = it := by simpa using hb
    subst e
    obtain ⟨o, e, c, d⟩ := st
    exact ⟨o, e, fun v z => by rw [d] at z; cases z⟩
  keep := fun i h h' st k => st.at fun o e => k it (by simp) o e
  item := by
    intro X hP hw hK hc i pins s σ H E I hf st hg
    subst hP hw hK
    obtain ⟨xs, x, hq, hx⟩ := hg
    obtain ⟨its, rv, p, hz⟩ := I.list hq
    obtain ⟨u, hu, ru⟩ := rv.get hx
    obtain ⟨f0, f1, f2, f3, f4, f5⟩ := hf it (by simp)
    refine wpAny_pyNext_list_item st p.isList (x := u) (by simpa using hu) fun h' st' sb => ?_
    have I1 : Inv X pins σ H { s with heap := h' } := I.turned (t' := s.toks) (fun b o hb e => (sb.2 b hb).trans e) f0 f1 f3 f4 f5
    obtain ⟨o, e, c, d⟩ := id st'
    exact ⟨u, rfl, go_of (s := { s with heap := h' }) e c d (by decide) ⟨x, H, I1, ru, ⟨rfl, fun ys hy => by rw [I.list_inj hy hq]; exact hx⟩, st', fun b hb => (hf b hb).1⟩⟩
  done := by
    intro X hP hw hK hc i pins s σ H E I hf st hg
    subst hP hw hK
    obtain ⟨xs, hq, hx⟩ := hg
    obtain ⟨its, rv, p, hz⟩ := I.list hq
    obtain ⟨f0, f1, f2, f3, f4, f5⟩ := hf it (by simp)
    have hl := rv.length
    exact wpAny_pyNext_list_end (I.ok.hd hc) st p.isList (by simp; omega) fun h' eb => ⟨rfl, I.turned (t' := s.toks) (fun b o hb e => eb b o hb e) f0 f1 f3 f4 f5⟩
  self := fun _ _ _ _ _ st h => wpAny_pyIter_listiter st h
theorem turn_tuple {P : Program} {w : World} {K : PySem.W.Frag} {tg : Expr} (a it : Addr) : Turn P w K tg (Itt K a) [it] it (fun i h => h.IsTupleIter it a i) where
  mem := by simp
  obj := fun i h st b hb => by
    have e : b = it := by simpa using hb
    subst e
    obtain ⟨o, e, c, d⟩ := st
    exact ⟨o, e, fun v z => by rw [d] at z; cases z⟩
  keep := fun i h h' st k => st.at fun o e => k it (by simp) o e
  item := by
    intro X hP hw hK hc i pins s σ H E I hf st hg
    subst hP hw hK
    obtain ⟨xs, x, hq, hx⟩ := hg
    obtain ⟨its, rv, p, hz⟩ := I.tuple hq
    obtain ⟨u, hu, ru⟩ := rv.get hx
    obtain ⟨f0, f1, f2, f3, f4, f5⟩ := hf it (by simp)
    refine wpAny_pyNext_tuple_item st (show s.heap.IsTuple a its.toArray from p) (x := u) (by simpa using hu) fun h' st' sb => ?_
    have I1 : Inv X pins σ H { s with heap := h' } := I.turned (t' := s.toks) (fun b o hb e => (sb.2 b hb).trans e) f0 f1 f3 f4 f5
    obtain ⟨o, e, c, d⟩ := id st'
    exact ⟨u, rfl, go_of (s := { s with heap := h' }) e c d (by decide) ⟨x, H, I1, ru, ⟨rfl, fun ys hy => by rw [I.tuple_inj hy hq]; exact hx⟩, st', fun b hb => (hf b hb).1⟩⟩
  done := by
    intro X hP hw hK hc i pins s σ H E I hf st hg
    subst hP hw hK
    obtain ⟨xs, hq, hx⟩ := hg
    obtain ⟨its, rv, p, hz⟩ := I.tuple hq
    obtain ⟨f0, f1, f2, f3, f4, f5⟩ := hf it (by simp)
    have hl := rv.length
    exact wpAny_pyNext_tuple_end (I.ok.hd hc) st (show s.heap.IsTuple a its.toArray from p) (by simp; omega) fun h' eb => ⟨rfl, I.turned (t' := s.toks) (fun b o hb e => eb b o hb e) f0 f1 f3 f4 f5⟩
  self := fun _ _ _ _ _ st h => wpAny_pyIter_tupleiter st h
theorem turn_range {P : Program} {w : World} {K : PySem.W.Frag} {tg : Expr} (it : Addr) (lo : Int) (n : Nat) : Turn P w K tg (Itr lo n) [it] it (fun i h => IsRangeIter h it (lo + (i : Nat) * 1) ((n : Int) - (i : Nat)) 1) where
  mem := by simp
  obj := fun i h st b hb => by
    have e : b = it := by simpa using hb
    subst e
    exact ⟨_, st, fun v z => by
      have z' : Data.fields _ = Data.cell v := z
      cases z'⟩
  keep := fun i h h' st k => k it (by simp) _ st
  item := by
    intro X hP hw hK hc i pins s σ H E I hf st hg
    subst hP hw hK
    obtain ⟨f0, f1, f2, f3, f4, f5⟩ := hf it (by simp)
    have W := Walks.range (prog := X.prog) (w := X.w) (I.ok.hd hc) it lo 1 n
    refine W.item i s _ _ hg st fun v h' tk hv st' kk => ?_
    obtain ⟨t, rfl⟩ := hv
    have I1 : Inv X pins σ H { s with heap := h', toks := tk } := I.turned (fun b o hb e => kk b o (by simpa using hb) e) f0 f1 f3 f4 f5
    refine ⟨_, rfl, go_of (s := { s with heap := h', toks := tk }) (n := "range_iterator") st' rfl rfl (by decide) ⟨.int (lo + i), H, I1, ⟨t, ?_⟩, ⟨rfl, rfl⟩, st', fun b hb => (hf b hb).1⟩⟩
    rw [Int.mul_one]
  done := by
    intro X hP hw hK hc i pins s σ H E I hf st hg
    subst hP hw hK
    obtain ⟨f0, f1, f2, f3, f4, f5⟩ := hf it (by simp)
    exact wpAny_pyNext_range_end (I.ok.hd hc) st (by have : n ≤ i := hg; omega) fun h' eb => ⟨rfl, I.turned (t' := s.toks) (fun b o hb e => eb b o hb e) f0 f1 f3 f4 f5⟩
  self := fun _ _ _ _ _ st h => wpAny_pyIter_rangeiter st h
end L2
namespace L2
open PySem PySem.Spec PyProof.Rows
section
variable {X:Cx} {tg:Expr}
def iList(K:PySem.W.Frag)(tl:TE):TI:=fun σ H R=>tl σ H fun x H1=>∃ a,x=.ref a/\(∃ xs,SqL K H1 a xs)/\R (Itl K a) H1
def iTup(K:PySem.W.Frag)(tl:TE):TI:=fun σ H R=>tl σ H fun x H1=>∃ a,x=.ref a/\(∃ xs,SqT K H1 a xs)/\R (Itt K a) H1
theorem pi_list{l:Expr}{tl:TE}(hl:PE X l tl):PI X tg l (iList X.K tl):=by
 intro pins s σ H R I h
 refine thn (hl pins s σ H _ I h) fun v s1 ⟨x,H1,I1,r1,q1⟩=>?_
 obtain⟨a,e,⟨xs,hq⟩,q⟩:=q1
 subst e
 cases r1
 obtain⟨its,rv,p,hz⟩:=I1.list hq
 refine wpAny_pyIter_list p.isList ?_
 refine⟨s1.heap.objs.size,[s1.heap.objs.size],_,_,H1,rfl,I1.kept (t':=s1.toks) fun b o e=>Heap.get?_push_of_some _ e,turn_list a _,⟨_,Heap.get?_push_size _ rfl,rfl,rfl⟩,fun b hb=>?_,q⟩
 have e:b=s1.heap.objs.size:=by simpa using hb
 subst e
 exact I1.fpOk (Nat.le_refl _) (I1.hok.fresh (Nat.le_refl _))
theorem pi_tup{l:Expr}{tl:TE}(hl:PE X l tl):PI X tg l (iTup X.K tl):=by
 intro pins s σ H R I h
 refine thn (hl pins s σ H _ I h) fun v s1 ⟨x,H1,I1,r1,q1⟩=>?_
 obtain⟨a,e,⟨xs,hq⟩,q⟩:=q1
 subst e
 cases r1
 obtain⟨its,rv,p,hz⟩:=I1.tuple hq
 refine wpAny_pyIter_tuple (show s1.heap.IsTuple a its.toArray from p) ?_
 refine⟨s1.heap.objs.size,[s1.heap.objs.size],_,_,H1,rfl,I1.kept (t':=s1.toks) fun b o e=>Heap.get?_push_of_some _ e,turn_tuple a _,⟨_,Heap.get?_push_size _ rfl,rfl,rfl⟩,fun b hb=>?_,q⟩
 have e:b=s1.heap.objs.size:=by simpa using hb
 subst e
 exact I1.fpOk (Nat.le_refl _) (I1.hok.fresh (Nat.le_refl _))
theorem range_it{pins:List (Addr×Obj)}{σ:St}{H:Hp}{s:Shared}{R:It->Hp->Prop}{E:Value->Shared->Prop}{lo hi:Int}{t u v:Tok}{tk:Nat}(I:Inv X pins σ H s)(h1:-(2 ^ 62)<=lo)(h2:lo<2 ^ 62)(h3:-(2 ^ 62)<=hi)(h4:hi<2 ^ 62)
  (q:R (Itr lo (hi - lo).toNat) H):wpAny (model X.prog X.w) X.A (pyIter (.ref s.heap.objs.size)) (PIE X pins σ tg R) E { s with heap:=s.heap.push { cls:=.type "range",data:=.fields #[.int lo t,.int hi u,.int 1 v] },toks:=tk }:=by
 refine wpAny_pyIter_range (IsRange.new ..) (small_one h1 h2 h3 h4) ?_
 have I1:Inv X pins σ H { s with heap:=s.heap.push { cls:=.type "range",data:=.fields #[.int lo t,.int hi u,.int 1 v] },toks:=tk }:=I.kept fun b o e=>Heap.get?_push_of_some _ e
 refine⟨(s.heap.push { cls:=.type "range",data:=.fields #[.int lo t,.int hi u,.int 1 v] }).objs.size,[(s.heap.push { cls:=.type "range",data:=.fields #[.int lo t,.int hi u,.int 1 v] }).objs.size],_,_,H,rfl,
  I1.kept (t':=tk) fun b o e=>Heap.get?_push_of_some _ e,turn_range _ lo (hi - lo).toNat,?_,fun b hb=>?_,q⟩
 ·have e1:lo+((0:Nat):Int) * 1=lo:=by simp
  have e2:(((hi - lo).toNat:Nat):Int) - ((0:Nat):Int)=Builtin.Range.rangeSize lo hi 1:=by rw [rangeSize_one];split<;>omega
  show IsRangeIter _ _ (lo+((0:Nat):Int) * 1) ((((hi - lo).toNat:Nat):Int) - ((0:Nat):Int)) 1
  rw [e1,e2]
  exact Heap.get?_push_size _ rfl
 ·have e:b=(s.heap.push { cls:=.type "range",data:=.fields #[.int lo t,.int hi u,.int 1 v] }).objs.size:=by simpa using hb
  subst e
  exact I1.fpOk (Nat.le_refl _) (I1.hok.fresh (Nat.le_refl _))
def iRng1(ta:TA):TI:=fun σ H R=>ta σ H fun vs H1=>∃ j:Int,vs=[.int j]/\-(2 ^ 62)<=j/\j<2 ^ 62/\R (Itr 0 j.toNat) H1
def iRng2(ta:TA):TI:=fun σ H R=>ta σ H fun vs H1=>∃ i j:Int,vs=[.int i,.int j]/\(-(2 ^ 62)<=i/\i<2 ^ 62/\-(2 ^ 62)<=j/\j<2 ^ 62)/\R (Itr i (j - i).toNat) H1
theorem pi_range1 {a:Expr} {ta:TA} {p pos:Pos} (hg:Gl X "range") (hm:X.mg "range"=none) (ha:PA X [a] ta) (hs:starEach [a] X.env=[(false,eval a X.env)]:=by rfl):PI X tg (.Call (.Name "range" p) [a] [] pos) (iRng1 ta):=by
 intro pins s σ H R I h
 refine Call_ (ld_blt I hg hm boot_range (PyProof.Rows.callWith_type1 (thn (ha pos pins s σ H _ I h) fun us s1 ⟨vs,H1,I1,r1,q1⟩=>?_) hs rfl))
 obtain⟨j,e,q1,q2,q⟩:=q1
 subst e
 cases r1 with
 | cons r rr=>
  cases rr
  obtain⟨t,rfl⟩:=r
  exact call_range_1 (range_it I1 (by omega) (by omega) q1 q2 (by simpa using q))
theorem pi_range2 {a b:Expr} {ta:TA} {p pos:Pos} (hg:Gl X "range") (hm:X.mg "range"=none) (ha:PA X [a,b] ta) (hs:starEach [a,b] X.env=[(false,eval a X.env),(false,eval b X.env)]:=by rfl) (hs2:starEach [b] X.env=[(false,eval b X.env)]:=by rfl) :
  PI X tg (.Call (.Name "range" p) [a,b] [] pos) (iRng2 ta):=by
 intro pins s σ H R I h
 refine Call_ (ld_blt I hg hm boot_range (PyProof.Rows.callWith_type1 (thn (ha pos pins s σ H _ I h) fun us s1 ⟨vs,H1,I1,r1,q1⟩=>?_) (by rw [hs,hs2]) (by rw [hs2];rfl)))
 obtain⟨i,j,e,⟨q1,q2,q3,q4⟩,q⟩:=q1
 subst e
 cases r1 with
 | cons r rr=>
  cases rr with
  | cons r' rr=>
   cases rr
   obtain⟨t,rfl⟩:=r
   obtain⟨t',rfl⟩:=r'
   exact call_range_2 (range_it I1 q1 q2 q3 q4 q)
def tFor(wi:TI)(g:TG)(tb:TS):TS:=fun D σ H=>wi σ H fun J H1=>∃ W:Nat->Nat->St->Hp->Prop,(∃ m,W 0 m σ H1)/\∀ i m σ H,W i m σ H →
 (J.stop i H/\D.nx σ H)\/(J.go i H/\∃ N:St->Hp->Prop,(∀ σ' H',N σ' H'->∃ m',m'<m/\W (i+1) m' σ' H')/\∀ x H',J.yld i H x H'->g x σ H' fun σ2 H2=>tb { D with nx:=N,ct:=N,bk:=D.nx } σ2 H2)
def pinsAt(fp:List Addr)(h:Heap):List (Addr×Obj):=fp.filterMap fun b=>(h.get? b).map fun o=>(b,o)
theorem mem_pinsAt{fp:List Addr}{h:Heap}{b:Addr}{o:Obj}(hb:b∈fp)(e:h.get? b=some o):(b,o)∈pinsAt fp h:=List.mem_filterMap.mpr ⟨b,hb,by rw [e];rfl⟩
theorem of_pinsAt{fp:List Addr}{h:Heap}{p:Addr×Obj}(hp:p∈pinsAt fp h):p.1∈fp/\h.get? p.1=some p.2:=by
 obtain⟨b,hb,e⟩:=List.mem_filterMap.mp hp
 cases q:h.get? b with
 | none=>rw [q] at e;cases e
 | some o=>
  rw [q] at e
  have e':(b,o)=p:=Option.some.inj e
  subst e'
  exact⟨hb,q⟩
theorem Inv.pinned{pins:List (Addr×Obj)}{σ:St}{H:Hp}{s:Shared}{fp:List Addr}(I:Inv X pins σ H s)(hf:∀ b∈fp,FpOk X pins H b)(ho:∀ b∈fp,∃ o,s.heap.get? b=some o/\∀ v,o.data≠.cell v):Inv X (pins++pinsAt fp s.heap) σ H s:=
 I.pins_of fun p hp=>(List.mem_append.mp hp).elim (fun z=>I.pin p (List.mem_append_right _ z)) fun z=>by
  obtain⟨hb,e⟩:=of_pinsAt z
  obtain⟨f0,f1,f2,_⟩:=hf p.1 hb
  obtain⟨o,e',d⟩:=ho p.1 hb
  rw [e] at e';cases e'
  exact⟨e,f0,f1,f2,d⟩
theorem Inv.unpinned{pins pl:List (Addr×Obj)}{σ:St}{H:Hp}{s:Shared}(I:Inv X (pins++pl) σ H s):Inv X pins σ H s:=I.pins_of fun p hp=>I.pin p (List.mem_append_right _ (List.mem_append_left _ hp))
theorem ps_for{iter:Expr}{body:List Stmt}{wi:TI}{g:TG}{tb:TS}{pos:Pos}(hp:PassesOwn (model X.prog X.w) X.A X.env X.xe)(hc:X.calm=true)(hi:PI X tg iter wi)(hg:PG X tg g)(hb:PSs X body tb)
  (hs:∀ x,foldedSetIterable iter X.env x=pure x:=by intro _;rfl):PS X (.For tg iter body [] pos) (tFor wi g tb):=by
 intro pins s σ H D I h
 refine wpAny_For (thn (hi pins s σ H _ I h) fun v s1 h1=>thn h1 fun itv s2 h2=>?_) hs
 obtain⟨it,fp,tn,J,H2,e,I2,T,st2,f2,W,⟨m0,w0⟩,turn⟩:=h2
 subst e
 have stat:∀ {H':Hp},(∀ b∈fp,H' b=none)->∀ b∈fp,FpOk X pins H' b:=fun hn b hb=>⟨hn b hb,(f2 b hb).2⟩
 refine codeAny_forLoop_any (fun n s'=>∃ i σ' H',Inv X pins σ' H' s'/\tn i s'.heap/\(∀ b∈fp,H' b=none)/\W i n σ' H') ?_ m0 ⟨0,σ,H2,I2,st2,fun b hb=>(f2 b hb).1,w0⟩
 rintro n s3 ⟨i,σ3,H3,I3,st3,fr3,w3⟩
 rcases turn i n σ3 H3 w3 with ⟨stop,qn⟩ | ⟨go,N,hN,step⟩
 ·refine wpAny_passesOwn hp (thn (T.done X rfl rfl rfl hc i pins s3 σ3 H3 X.xe I3 (stat fr3) st3 stop) fun r s4 ⟨hr,I4⟩=>?_)
  subst hr
  exact wpAny_execs_nil ⟨σ3,H3,I4,qn⟩
 ·refine wpAny_passesOwn hp (thn (T.item X rfl rfl rfl hc i pins s3 σ3 H3 X.xe I3 (stat fr3) st3 go) fun r s4 ⟨u,hr,h4⟩=>?_)
  subst hr
  refine wpAny_passesOwn hp (thn h4 fun _ s5 ⟨x,H5,I5,r5,y5,st5,fr5⟩=>?_)
  have I5':=I5.pinned (stat fr5) (T.obj _ _ st5)
  refine wpAny_passesOwn hp (thn (hg _ s5 σ3 H5 x u _ I5' r5 (step x H5 y5)) fun _ s6 ⟨σ6,H6,I6,q6⟩=>?_)
  refine wpAny_passesOwn hp (thn (hb _ s6 σ6 H6 _ I6 q6) fun f s7 q7=>?_)
  have again:∀ {σ7:St} {H7:Hp},Inv X (pins++pinsAt fp s5.heap) σ7 H7 s7->N σ7 H7->∃ m,m<n/\∃ i σ' H',Inv X pins σ' H' s7/\tn i s7.heap/\(∀ b∈fp,H' b=none)/\W i m σ' H':=fun {σ7 H7} I7 n7=>by
   obtain⟨m',hm,w7⟩:=hN σ7 H7 n7
   refine⟨m',hm,i+1,σ7,H7,I7.unpinned,T.keep _ _ _ st5 fun b hb o e=>(I7.pin (b,o) (List.mem_append_right _ (List.mem_append_right _ (mem_pinsAt hb e)))).1,fun b hb=>?_,w7⟩
   obtain⟨o,e,d⟩:=T.obj _ _ st5 b hb
   exact (I7.pin (b,o) (List.mem_append_right _ (List.mem_append_right _ (mem_pinsAt hb e)))).2.1
  cases f with
  | next=>obtain⟨σ7,H7,I7,n7⟩:=q7;exact again I7 n7
  | cont=>obtain⟨σ7,H7,I7,n7⟩:=q7;exact again I7 n7
  | brk=>obtain⟨σ7,H7,I7,q7⟩:=q7;exact⟨σ7,H7,I7.unpinned,q7⟩
  | ret v=>obtain⟨x7,σ7,H7,I7,r7,q7⟩:=q7;exact⟨x7,σ7,H7,I7.unpinned,r7,q7⟩
end
theorem for_list{K:PySem.W.Frag}{a:Addr}{xs:List V}{g:TG}{tb:TS}{D:Ends}{σ:St}{H:Hp}(Pv:Nat->St->Hp->Prop)(h0:Pv 0 σ H)(hl:∀ i σ H,i<=xs.length->Pv i σ H->SqL K H a xs)
  (hs:∀ i x σ H,xs[i]? = some x->Pv i σ H->g x σ H fun σ2 H2=>tb { D with nx:=Pv (i+1),ct:=Pv (i+1),bk:=D.nx } σ2 H2) (hd:∀ σ H,Pv xs.length σ H->D.nx σ H) :
  ∃ W:Nat->Nat->St->Hp->Prop,(∃ m,W 0 m σ H)/\∀ i m σ H,W i m σ H →
   ((Itl K a).stop i H/\D.nx σ H)\/((Itl K a).go i H/\∃ N:St->Hp->Prop,(∀ σ' H',N σ' H'->∃ m',m'<m/\W (i+1) m' σ' H')/\∀ x H',(Itl K a).yld i H x H'->g x σ H' fun σ2 H2=>tb { D with nx:=N,ct:=N,bk:=D.nx } σ2 H2):=by
 refine⟨fun i m σ H=>m=xs.length - i/\i<=xs.length/\Pv i σ H,⟨xs.length,by simp,Nat.zero_le _,h0⟩,?_⟩
 rintro i m σ H ⟨rfl,hi,p⟩
 have q:=hl i σ H hi p
 by_cases hlt:i<xs.length
 ·refine .inr ⟨⟨xs,xs[i],q,by simp [hlt]⟩,Pv (i+1),fun σ' H' p'=>⟨xs.length - (i+1),by omega,rfl,hlt,p'⟩,fun x H' y=>?_⟩
  obtain⟨e,y⟩:=y
  subst e
  exact hs i x σ _ (y xs q) p
 ·have e:i=xs.length:=by omega
  subst e
  exact .inl ⟨⟨xs,q,Nat.le_refl _⟩,hd σ H p⟩
theorem for_tup{K:PySem.W.Frag}{a:Addr}{xs:List V}{g:TG}{tb:TS}{D:Ends}{σ:St}{H:Hp}(Pv:Nat->St->Hp->Prop)(h0:Pv 0 σ H)(hl:∀ i σ H,i<=xs.length->Pv i σ H->SqT K H a xs)
  (hs:∀ i x σ H,xs[i]? = some x->Pv i σ H->g x σ H fun σ2 H2=>tb { D with nx:=Pv (i+1),ct:=Pv (i+1),bk:=D.nx } σ2 H2) (hd:∀ σ H,Pv xs.length σ H->D.nx σ H) :
  ∃ W:Nat->Nat->St->Hp->Prop,(∃ m,W 0 m σ H)/\∀ i m σ H,W i m σ H →
   ((Itt K a).stop i H/\D.nx σ H)\/((Itt K a).go i H/\∃ N:St->Hp->Prop,(∀ σ' H',N σ' H'->∃ m',m'<m/\W (i+1) m' σ' H')/\∀ x H',(Itt K a).yld i H x H'->g x σ H' fun σ2 H2=>tb { D with nx:=N,ct:=N,bk:=D.nx } σ2 H2):=by
 refine⟨fun i m σ H=>m=xs.length - i/\i<=xs.length/\Pv i σ H,⟨xs.length,by simp,Nat.zero_le _,h0⟩,?_⟩
 rintro i m σ H ⟨rfl,hi,p⟩
 have q:=hl i σ H hi p
 by_cases hlt:i<xs.length
 ·refine .inr ⟨⟨xs,xs[i],q,by simp [hlt]⟩,Pv (i+1),fun σ' H' p'=>⟨xs.length - (i+1),by omega,rfl,hlt,p'⟩,fun x H' y=>?_⟩
  obtain⟨e,y⟩:=y
  subst e
  exact hs i x σ _ (y xs q) p
 ·have e:i=xs.length:=by omega
  subst e
  exact .inl ⟨⟨xs,q,Nat.le_refl _⟩,hd σ H p⟩
theorem for_range{lo:Int}{n:Nat}{g:TG}{tb:TS}{D:Ends}{σ:St}{H:Hp}(Pv:Nat->St->Hp->Prop)(h0:Pv 0 σ H)
  (hs:∀ i σ H,i<n->Pv i σ H->g (.int (lo+i)) σ H fun σ2 H2=>tb { D with nx:=Pv (i+1),ct:=Pv (i+1),bk:=D.nx } σ2 H2) (hd:∀ σ H,Pv n σ H->D.nx σ H) :
  ∃ W:Nat->Nat->St->Hp->Prop,(∃ m,W 0 m σ H)/\∀ i m σ H,W i m σ H →
   ((Itr lo n).stop i H/\D.nx σ H)\/((Itr lo n).go i H/\∃ N:St->Hp->Prop,(∀ σ' H',N σ' H'->∃ m',m'<m/\W (i+1) m' σ' H')/\∀ x H',(Itr lo n).yld i H x H'->g x σ H' fun σ2 H2=>tb { D with nx:=N,ct:=N,bk:=D.nx } σ2 H2):=by
 refine⟨fun i m σ H=>m=n - i/\i<=n/\Pv i σ H,⟨n,by simp,Nat.zero_le _,h0⟩,?_⟩
 rintro i m σ H ⟨rfl,hi,p⟩
 by_cases hlt:i<n
 ·refine .inr ⟨hlt,Pv (i+1),fun σ' H' p'=>⟨n - (i+1),by omega,rfl,hlt,p'⟩,fun x H' y=>?_⟩
  obtain⟨e,y⟩:=y
  subst e y
  exact hs i σ _ hlt p
 ·have e:i=n:=by omega
  subst e
  exact .inl ⟨Nat.le_refl _,hd σ H p⟩
end L2
namespace L2
open PySem PySem.Spec PyProof.Rows
abbrev R2:=V->V->Hp->VK->Prop
def OpR(X:Cx)(f:Value->Value->Sem Value)(r:R2):Prop:=
 ∀ (pins:List (Addr×Obj)) (s:Shared) (σ:St) (H:Hp) (x y:V) (v u:Value) (Q:VK),Inv X pins σ H s->RelV x v->RelV y u->r x y H Q →
  wpAny (model X.prog X.w) X.A (f v u) (EP X pins σ Q) X.xe s
def UnR(X:Cx)(f:Value->Sem Value)(r:V->Hp->VK->Prop):Prop:=
 ∀ (pins:List (Addr×Obj)) (s:Shared) (σ:St) (H:Hp) (x:V) (v:Value) (Q:VK),Inv X pins σ H s->RelV x v->r x H Q →
  wpAny (model X.prog X.w) X.A (f v) (EP X pins σ Q) X.xe s
def CallR(X:Cx)(f:Value)(r:List V->Hp->VK->Prop):Prop:=
 ∀ (pins:List (Addr×Obj)) (s:Shared) (σ:St) (H:Hp) (xs:List V) (us:List Value) (Q:VK),Inv X pins σ H s->Vals xs us->r xs H Q →
  wpAny (model X.prog X.w) X.A (call f us) (EP X pins σ Q) X.xe s
def tOp(r:R2)(ta tb:TE):TE:=fun σ H Q=>ta σ H fun x H1=>tb σ H1 fun y H2=>r x y H2 Q
def tUn(r:V->Hp->VK->Prop)(ta:TE):TE:=fun σ H Q=>ta σ H fun x H1=>r x H1 Q
def rI(C:Int->Int->Prop)(g:Int->Int->V):R2:=fun x y H Q=>∃ i j,x=.int i/\y=.int j/\C i j/\Q (g i j) H
def rI0(g:Int->Int->V):R2:=fun x y H Q=>∃ i j,x=.int i/\y=.int j/\Q (g i j) H
def rU(g:Int->V):V->Hp->VK->Prop:=fun x H Q=>∃ i,x=.int i/\Q (g i) H
section
variable {X:Cx} {a b c:Expr} {ta tb tc:TE} {pos:Pos}
theorem binT(ha:PE X a ta)(hb:PE X b tb){pins:List (Addr×Obj)}{s:Shared}{σ:St}{H:Hp}{R:V->V->Hp->Prop}(I:Inv X pins σ H s)
  (h:ta σ H fun x H1=>tb σ H1 fun y H2=>R x y H2) {Q:Value->Shared->Prop} {f:Value->Value->Sem Value}
  (hf:∀ v u s2 x y H2,Inv X pins σ H2 s2->RelV x v->RelV y u->R x y H2->wpAny (model X.prog X.w) X.A (f v u) Q X.xe s2) :
  wpAny (model X.prog X.w) X.A (eval a X.env) (fun v s₁=>wpAny (model X.prog X.w) X.A (eval b X.env) (fun u s₂=>wpAny (model X.prog X.w) X.A (f v u) Q X.xe s₂) X.xe s₁) X.xe s:=by
 refine thn (ha pins s σ H _ I h) fun v s1 ⟨x,H1,I1,r1,q1⟩=>?_
 refine thn (hb pins s1 σ H1 _ I1 q1) fun u s2 ⟨y,H2,I2,r2,q2⟩=>?_
 exact hf v u s2 x y H2 I2 r1 r2 q2
theorem pe_op{op:Operator}{r:R2}(ho:OpR X (binaryOp op) r)(ha:PE X a ta)(hb:PE X b tb):PE X (.BinOp a op b pos) (tOp r ta tb):=by
 intro pins s σ H Q I h
 exact wpAny_BinOp (binT ha hb I h fun v u s2 x y H2 I2 rx ry q=>ho pins s2 σ H2 x y v u Q I2 rx ry q)
theorem pe_un{op:UnaryOp}{r:V->Hp->VK->Prop}(ho:UnR X (unaryOp op) r)(ha:PE X a ta):PE X (.UnaryOp op a pos) (tUn r ta):=by
 intro pins s σ H Q I h
 exact UnaryOp_ (thn (ha pins s σ H _ I h) fun v s1 ⟨x,H1,I1,r1,q1⟩=>ho pins s1 σ H1 x v Q I1 r1 q1)
theorem opI{f:Value->Value->Sem Value}{C:Int->Int->Prop}{g:Int->Int->Int}
  (rule:∀ (i j:Int) (t u:Tok) (s:Shared) (Q:Value->Shared->Prop) (E:Value->Shared->Prop),C i j->Q (.int (g i j) s.toks) { s with toks:=s.toks+1 }->wpAny (model X.prog X.w) X.A (f (.int i t) (.int j u)) Q E s) :
  OpR X f (rI C fun i j=>.int (g i j)):=by
 intro pins s σ H x y v u Q I rx ry h
 obtain⟨i,j,rfl,rfl,hc,q⟩:=h
 obtain⟨t,rfl⟩:=rx
 obtain⟨t',rfl⟩:=ry
 exact rule i j t t' s _ _ hc ⟨.int (g i j),H,I.tok _,⟨_,rfl⟩,q⟩
theorem opI0{f:Value->Value->Sem Value}{g:Int->Int->Int}
  (rule:∀ (i j:Int) (t u:Tok) (s:Shared) (Q:Value->Shared->Prop) (E:Value->Shared->Prop),Q (.int (g i j) s.toks) { s with toks:=s.toks+1 }->wpAny (model X.prog X.w) X.A (f (.int i t) (.int j u)) Q E s) :
  OpR X f (rI0 fun i j=>.int (g i j)):=by
 intro pins s σ H x y v u Q I rx ry h
 obtain⟨i,j,rfl,rfl,q⟩:=h
 obtain⟨t,rfl⟩:=rx
 obtain⟨t',rfl⟩:=ry
 exact rule i j t t' s _ _ ⟨.int (g i j),H,I.tok _,⟨_,rfl⟩,q⟩
theorem opB0{f:Value->Value->Sem Value}{g:Int->Int->Bool}
  (rule:∀ (i j:Int) (t u:Tok) (s:Shared) (Q:Value->Shared->Prop) (E:Value->Shared->Prop),Q (.bool (g i j)) s->wpAny (model X.prog X.w) X.A (f (.int i t) (.int j u)) Q E s) :
  OpR X f (rI0 fun i j=>.bl (g i j)):=by
 intro pins s σ H x y v u Q I rx ry h
 obtain⟨i,j,rfl,rfl,q⟩:=h
 obtain⟨t,rfl⟩:=rx
 obtain⟨t',rfl⟩:=ry
 exact rule i j t t' s _ _ ⟨.bl (g i j),H,I,rfl,q⟩
def CDiv(i j:Int):Prop:=0<j/\j<1073741824
def CPow(i j:Int):Prop:=0<=j/\j<=1000000/\i.natAbs<2 ^ 64
def CMul(i j:Int):Prop:=(-(2 ^ 64)<i/\i<2 ^ 64)\/(-(2 ^ 64)<j/\j<2 ^ 64)
theorem CMul.ok{i j:Int}(h:CMul i j):IntMulOk i j:=by
 rcases h with ⟨h1,h2⟩ | ⟨h1,h2⟩
 ·exact .of_left (intBits_le_64 h1 h2)
 ·exact .of_right (intBits_le_64 h1 h2)
theorem op_add:OpR X (binaryOp .Add) (rI0 fun i j=>.int (i+j)):=opI0 fun _ _ _ _ _ _ _ q=>add_int q
theorem op_sub:OpR X (binaryOp .Sub) (rI0 fun i j=>.int (i - j)):=opI0 fun _ _ _ _ _ _ _ q=>sub_int q
theorem op_mul:OpR X (binaryOp .Mult) (rI CMul fun i j=>.int (i * j)):=opI fun _ _ _ _ _ _ _ hc q=>mul_int q hc.ok
theorem op_fdiv:OpR X (binaryOp .FloorDiv) (rI CDiv fun i j=>.int (i / j)):=opI fun i j _ _ _ _ _ hc q=>by
 have h1:(0:Int)<j:=hc.1
 have h2:j<1073741824:=hc.2
 exact floordiv_int (by omega) (by rw [Int.fdiv_eq_ediv_of_nonneg i (by omega)];exact q) (.inl (PyProof.noPylong_small (by omega)))
theorem op_mod:OpR X (binaryOp .Mod) (rI (fun _ j=>0<j) fun i j=>.int (i % j)):=opI fun i j _ _ _ _ _ hc q=>by
 have h1:(0:Int)<j:=hc
 exact mod_int' (by omega) (by rw [Int.fmod_eq_emod_of_nonneg i (by omega)];exact q)
theorem op_pow:OpR X (binaryOp .Pow) (rI CPow fun i j=>.int (i ^ j.toNat)):=opI fun _ _ _ _ _ _ _ hc q=>pow_int_small hc.1 hc.2.1 hc.2.2 q
theorem unI{f:Value->Sem Value}{g:Int->Int}
  (rule:∀ (i:Int) (t:Tok) (s:Shared) (Q:Value->Shared->Prop) (E:Value->Shared->Prop),Q (.int (g i) s.toks) { s with toks:=s.toks+1 }->wpAny (model X.prog X.w) X.A (f (.int i t)) Q E s) :
  UnR X f (rU fun i=>.int (g i)):=by
 intro pins s σ H x v Q I rx h
 obtain⟨i,rfl,q⟩:=h
 obtain⟨t,rfl⟩:=rx
 exact rule i t s _ _ ⟨.int (g i),H,I.tok _,⟨_,rfl⟩,q⟩
theorem un_neg:UnR X (unaryOp .USub) (rU fun i=>.int (-i)):=unI fun _ _ _ _ _ q=>neg_int q
end
def scal:V->V->Bool
 | .non,.non=>true | .non,.int _=>true | .int _,.non=>true | .non,.bl _=>true | .bl _,.non=>true | .non,.str _=>true | .str _,.non=>true
 | .int _,.int _=>true | .bl _,.bl _=>true | .str _,.str _=>true | .byt _,.byt _=>true
 | .int _,.str _=>true | .str _,.int _=>true | .bl _,.str _=>true | .str _,.bl _=>true
 | _,_=>false
def rEq:R2:=fun x y H Q=>scal x y=true/\Q (.bl (decide (x=y))) H
def rNe:R2:=fun x y H Q=>scal x y=true/\Q (.bl (!decide (x=y))) H
theorem dec_int{i j:Int}:decide (V.int i=V.int j)=(i==j):=by
 rw [Bool.eq_iff_iff]
 simp
theorem dec_bl{i j:Bool}:decide (V.bl i=V.bl j)=(i==j):=by
 rw [Bool.eq_iff_iff]
 simp
theorem dec_str{i j:Str}:decide (V.str i=V.str j)=(i==j):=by
 rw [Bool.eq_iff_iff]
 simp
theorem dec_byt{i j:Array UInt8}:decide (V.byt i=V.byt j)=(i.toList==j.toList):=by
 rw [Bool.eq_iff_iff]
 cases i
 cases j
 simp
section
variable {X:Cx} {a b c:Expr} {ta tb tc:TE} {pos:Pos}
theorem fin_bl{pins:List (Addr×Obj)}{σ:St}{H:Hp}{s:Shared}{Q:VK}{k k':Bool}(I:Inv X pins σ H s)(q:Q (.bl k) H)(e:k=k'):EP X pins σ Q (.bool k') s:=by
 subst e
 exact⟨.bl k,H,I,rfl,q⟩
theorem op_eq:OpR X (compareOp .Eq) rEq:=by
 intro pins s σ H x y v u Q I rx ry h
 obtain⟨hs,q⟩:=h
 cases x with
 | non=>
  cases rx
  cases y with
  | non=>cases ry;exact PySem.EqNone.eq_none_none (fin_bl I q (by simp))
  | bl j=>cases ry;exact PySem.EqNone.eq_none_bool (fin_bl I q (by simp))
  | int j=>obtain⟨t',rfl⟩:=ry;exact PySem.EqNone.eq_none_int (fin_bl I q (by simp))
  | str j=>obtain⟨t',rfl⟩:=ry;exact PySem.EqNone.eq_none_str (fin_bl I q (by simp))
  | _=>exact absurd (show false=true from hs) Bool.false_ne_true
 | bl i=>
  cases rx
  cases y with
  | non=>cases ry;exact PySem.EqNone.eq_bool_none (fin_bl I q (by simp))
  | bl j=>cases ry;exact eq_bool (fin_bl I q dec_bl)
  | str j=>obtain⟨t',rfl⟩:=ry;exact PySem.EqMixed.eq_bool_str (fin_bl I q (by simp))
  | _=>exact absurd (show false=true from hs) Bool.false_ne_true
 | int i=>
  obtain⟨t,rfl⟩:=rx
  cases y with
  | non=>cases ry;exact PySem.EqNone.eq_int_none (fin_bl I q (by simp))
  | int j=>obtain⟨t',rfl⟩:=ry;exact eq_int (fin_bl I q dec_int)
  | str j=>obtain⟨t',rfl⟩:=ry;exact PySem.EqMixed.eq_int_str (fin_bl I q (by simp))
  | _=>exact absurd (show false=true from hs) Bool.false_ne_true
 | str i=>
  obtain⟨t,rfl⟩:=rx
  cases y with
  | non=>cases ry;exact PySem.EqNone.eq_str_none (fin_bl I q (by simp))
  | bl j=>cases ry;exact PySem.EqMixed.eq_str_bool (fin_bl I q (by simp))
  | int j=>obtain⟨t',rfl⟩:=ry;exact PySem.EqMixed.eq_str_int (fin_bl I q (by simp))
  | str j=>obtain⟨t',rfl⟩:=ry;exact eq_str (fin_bl I q dec_str)
  | _=>exact absurd (show false=true from hs) Bool.false_ne_true
 | byt i=>
  obtain⟨t,rfl⟩:=rx
  cases y with
  | byt j=>obtain⟨t',rfl⟩:=ry;exact PySem.W.eq_bytes (fin_bl I q dec_byt)
  | _=>exact absurd (show false=true from hs) Bool.false_ne_true
 | _=>cases y<;>exact absurd (show false=true from hs) Bool.false_ne_true
theorem op_ne:OpR X (compareOp .NotEq) rNe:=by
 intro pins s σ H x y v u Q I rx ry h
 obtain⟨hs,q⟩:=h
 cases x with
 | non=>
  cases rx
  cases y with
  | non=>cases ry;exact PySem.EqNone.ne_none_none (fin_bl I q (by simp))
  | bl j=>cases ry;exact PySem.EqNone.ne_none_bool (fin_bl I q (by simp))
  | int j=>obtain⟨t',rfl⟩:=ry;exact PySem.EqNone.ne_none_int (fin_bl I q (by simp))
  | str j=>obtain⟨t',rfl⟩:=ry;exact PySem.EqNone.ne_none_str (fin_bl I q (by simp))
  | _=>exact absurd (show false=true from hs) Bool.false_ne_true
 | bl i=>
  cases rx
  cases y with
  | non=>cases ry;exact PySem.EqNone.ne_bool_none (fin_bl I q (by simp))
  | bl j=>cases ry;exact ne_bool (fin_bl I q (congrArg not dec_bl))
  | str j=>obtain⟨t',rfl⟩:=ry;exact PySem.EqMixed.ne_bool_str (fin_bl I q (by simp))
  | _=>exact absurd (show false=true from hs) Bool.false_ne_true
 | int i=>
  obtain⟨t,rfl⟩:=rx
  cases y with
  | non=>cases ry;exact PySem.EqNone.ne_int_none (fin_bl I q (by simp))
  | int j=>obtain⟨t',rfl⟩:=ry;exact ne_int (fin_bl I q (congrArg not dec_int))
  | str j=>obtain⟨t',rfl⟩:=ry;exact PySem.EqMixed.ne_int_str (fin_bl I q (by simp))
  | _=>exact absurd (show false=true from hs) Bool.false_ne_true
 | str i=>
  obtain⟨t,rfl⟩:=rx
  cases y with
  | non=>cases ry;exact PySem.EqNone.ne_str_none (fin_bl I q (by simp))
  | bl j=>cases ry;exact PySem.EqMixed.ne_str_bool (fin_bl I q (by simp))
  | int j=>obtain⟨t',rfl⟩:=ry;exact PySem.EqMixed.ne_str_int (fin_bl I q (by simp))
  | str j=>obtain⟨t',rfl⟩:=ry;exact ne_str (fin_bl I q (congrArg not dec_str))
  | _=>exact absurd (show false=true from hs) Bool.false_ne_true
 | byt i=>
  obtain⟨t,rfl⟩:=rx
  cases y with
  | byt j=>obtain⟨t',rfl⟩:=ry;exact PySem.W.ne_bytes (fin_bl I q (congrArg not dec_byt))
  | _=>exact absurd (show false=true from hs) Bool.false_ne_true
 | _=>cases y<;>exact absurd (show false=true from hs) Bool.false_ne_true
theorem op_lt:OpR X (compareOp .Lt) (rI0 fun i j=>.bl (decide (i<j))):=opB0 fun _ _ _ _ _ _ _ q=>lt_int q
theorem op_le:OpR X (compareOp .LtE) (rI0 fun i j=>.bl (decide (i<=j))):=opB0 fun _ _ _ _ _ _ _ q=>le_int q
theorem op_gt:OpR X (compareOp .Gt) (rI0 fun i j=>.bl (decide (j<i))):=opB0 fun _ _ _ _ _ _ _ q=>gt_int q
theorem op_in_str:OpR X (compareOp .In) (fun x y H Q=>∃ i j,x=.str i/\y=.str j/\Q (.bl (!(Builtin.Str.occurrences j i 0 j.length 1).isEmpty)) H):=by
 intro pins s σ H x y v u Q I rx ry h
 obtain⟨i,j,rfl,rfl,q⟩:=h
 obtain⟨t,rfl⟩:=rx
 obtain⟨t',rfl⟩:=ry
 exact in_str (fin_bl I q rfl)
theorem op_notN:OpR X (compareOp .IsNot) (fun x y H Q=>y=.non/\Q (.bl (!decide (x=.non))) H):=by
 intro pins s σ H x y v u Q I rx ry h
 obtain⟨rfl,q⟩:=h
 cases ry
 refine isnot_none_gen (fin_bl I q ?_)
 cases x<;>first
  | (cases rx;rfl)
  | (obtain⟨t,rfl⟩:=rx;rfl)
theorem nomark(b:Expr){op:CmpOp}(h:op≠.In:=by decide)(h2:op≠.NotIn:=by decide):behindInMarks op b=false:=by
 have e1:(op==CmpOp.In)=false:=by cases op<;>first | rfl | exact absurd rfl h
 have e2:(op==CmpOp.NotIn)=false:=by cases op<;>first | rfl | exact absurd rfl h2
 cases b<;>simp [behindInMarks,e1,e2]
theorem pe_cmpR{op:CmpOp}{r:R2}(ho:OpR X (compareOp op) r)(ha:PE X a ta)(hb:PE X b tb)(hm:behindInMarks op b=false):PE X (.Compare a [op] [b] pos) (tOp r ta tb):=by
 intro pins s σ H Q I h
 exact wpAny_Compare1 (binT ha hb I h fun v u s2 x y H2 I2 rx ry q=>ho pins s2 σ H2 x y v u Q I2 rx ry q) hm
def tTest(t:TE):TT:=fun σ H Q=>t σ H fun x H'=>∃ k,x=.bl k/\Q k H'
theorem pt_cmpR{op:CmpOp}{r:R2}(ho:OpR X (compareOp op) r)(ha:PE X a ta)(hb:PE X b tb)(hm:behindInMarks op b=false):PT X (.Compare a [op] [b] pos) (tTest (tOp r ta tb)):=by
 intro pins s σ H Q I h
 refine wpAny_isTrue_Compare1 (thn (ha pins s σ H _ I h) fun v s1 ⟨x,H1,I1,r1,q1⟩=>thn (hb pins s1 σ H1 _ I1 q1) fun u s2 ⟨y,H2,I2,r2,q2⟩=>
  thn (ho pins s2 σ H2 x y v u _ I2 r1 r2 q2) fun c s3 ⟨z,H3,I3,r3,k,e,q3⟩=>?_) hm
 subst e
 cases r3
 exact wpAny_truthy_bool ⟨H3,I3,q3⟩
def tChain(r r':R2)(ta tb tc:TE):TE:=fun σ H Q=>ta σ H fun x H1=>tb σ H1 fun y H2=>r x y H2 fun z H3=>∃ k,z=.bl k ∧
 (if k=true then tc σ H3 fun w' H4=>r' y w' H4 Q else Q (.bl false) H3)
theorem line63:(sizeLine:Nat)<2 ^ 63:=by rw [sizeLine_eq];decide
theorem vals1{x:V}{us:List Value}(r:Vals [x] us):∃ u,us=[u]/\RelV x u:=by
 cases r with
 | cons r1 r2=>cases r2;exact⟨_,rfl,r1⟩
theorem vals2{x y:V}{us:List Value}(r:Vals [x,y] us):∃ u w',us=[u,w']/\RelV x u/\RelV y w':=by
 cases r with
 | cons r1 r2=>
  cases r2 with
  | cons r3 r4=>cases r4;exact⟨_,_,rfl,r1,r3⟩
theorem call_max2 (hc:X.calm=true):CallR X (.builtin "max") (fun xs H Q=>∃ i j,xs=[.int i,.int j]/\Q (.int (if j > i then j else i)) H):=by
 intro pins s σ H xs us Q I r h
 obtain⟨i,j,rfl,q⟩:=h
 obtain⟨u,w',rfl,⟨t,rfl⟩,⟨t',rfl⟩⟩:=vals2 r
 refine max_two_ints (I.ok.hd hc) fun h' tk k=>⟨_,H,I.kept k,?_,q⟩
 by_cases hj:j > i
 ·rw [if_pos hj,if_pos hj];exact⟨_,rfl⟩
 ·rw [if_neg hj,if_neg hj];exact⟨_,rfl⟩
theorem call_min2 (hc:X.calm=true):CallR X (.builtin "min") (fun xs H Q=>∃ i j,xs=[.int i,.int j]/\Q (.int (if j<i then j else i)) H):=by
 intro pins s σ H xs us Q I r h
 obtain⟨i,j,rfl,q⟩:=h
 obtain⟨u,w',rfl,⟨t,rfl⟩,⟨t',rfl⟩⟩:=vals2 r
 refine min_two_ints (I.ok.hd hc) fun h' tk k=>⟨_,H,I.kept k,?_,q⟩
 by_cases hj:j<i
 ·rw [if_pos hj,if_pos hj];exact⟨_,rfl⟩
 ·rw [if_neg hj,if_neg hj];exact⟨_,rfl⟩
theorem call_int1:CallR X (.type "int") (fun xs H Q=>(∃ i,xs=[.int i]/\Q (.int i) H)\/∃ k,xs=[.bl k]/\Q (.int (if k then 1 else 0)) H):=by
 intro pins s σ H xs us Q I r h
 rcases h with ⟨i,rfl,q⟩ | ⟨k,rfl,q⟩
 ·obtain⟨u,rfl,t,rfl⟩:=vals1 r
  exact call_int_int ⟨.int i,H,I,⟨_,rfl⟩,q⟩
 ·obtain⟨u,rfl,r1⟩:=vals1 r
  cases r1
  exact call_int_bool ⟨.int (if k then 1 else 0),H,I.tok _,⟨_,rfl⟩,q⟩
end
end L2
namespace L2
open PySem PySem.Spec PyProof.Rows
structure ObjM (h:Heap) (x dx C:Addr) (mA:Str->Option Value):Prop where
 obj:h.get? x=some (PySem.W.instObj C dx)
 ns:h.Ns1 dx mA
 ne:dx≠x
theorem lookIn_ns{h:Heap}{dx:Addr}{mA:Str->Option Value}(n:h.Ns1 dx mA):∃ od,h.get? dx=some od/\∀ name,PySem.W.lookIn name od=some (mA name):=by
 obtain⟨o,es,ep,ho,hd,hk,_,hm⟩:=n
 refine⟨o,ho,fun name=>?_⟩
 have e:=hm name
 unfold nsFind findBy at e
 rw [<-Array.find?_toList] at e
 unfold PySem.W.lookIn
 rw [hd]
 dsimp only
 split
 ·rename_i y q
  rw [q] at e
  exact congrArg some e
 ·rename_i q
  rw [q] at e
  have a:es.toList.any (·.refKey)=false:=by
   rw [List.any_eq_false]
   intro y hy
   obtain⟨z,t,hkey⟩:=hk y (Array.mem_toList_iff.mp hy)
   simp [DictEntry.refKey,hkey]
  have a':¬ es.toList.any (·.refKey)=true:=by rw [a];exact Bool.false_ne_true
  rw [if_neg a']
  exact congrArg some e
theorem ObjM.look{h:Heap}{x dx C:Addr}{mA:Str->Option Value}(I:ObjM h x dx C mA):∃ od,PySem.W.InstAt h x (PySem.W.instObj C dx) C (some od)/\∀ name,PySem.W.lookIn name od=some (mA name):=
 let ⟨od,ho,hl⟩:=lookIn_ns I.ns
 ⟨od,⟨I.obj,rfl,rfl,ho⟩,hl⟩
section
variable {prog:Program} {w:World} {A:Around} {E:Value->Shared->Prop} {s:Shared} {K:PySem.W.Frag} {x dx C f:Addr} {mA:Str->Option Value} {name:Str} {v:Value}
end
theorem RelO.some_of{v:V}{o:Option Value}(r:RelO (some v) o):∃ u,o=some u/\RelV v u:=by
 cases o with
 | none=>exact (show False from r).elim
 | some u=>exact⟨u,rfl,r⟩
section
variable {P:Program} {w:World} {H H':Hp} {h h':Heap} {a C dx:Addr} {fs fs':List (Str×V)}
theorem ins_get(hok:HOk P w H h)(e:H a=some (.ins C dx fs)):∃ mA,ObjM h a dx C mA/\(∀ f,RelO (fs.lookup f) (mA f))/\PySem.Within mA (fs.map (·.1))/\fs.length<=1000/\H dx=some (.own a):=by
 obtain⟨d,z,ne,ob,mA,n,r,q⟩:=(show ObjOk P w H h a (.ins C dx fs) from hok a _ e)
 exact⟨mA,⟨ob,n,ne⟩,r,q,z,d⟩
end
structure Cls (K:PySem.W.Frag) (C:Addr):Prop where
 pg:PySem.W.plainGet K C Str.empty=true
 hd:PySem.W.hasDictIn K C=true
 po:PySem.W.plainOver K C=true
 sa:PySem.W.findIn K (.ref C) "__setattr__"=some (some (.builtin "object.__setattr__"))
theorem Cls.get{K:PySem.W.Frag}{C:Addr}(c:Cls K C)(f:Str):PySem.W.plainGet K C f=true:=c.pg
section
variable {X:Cx} {pins:List (Addr×Obj)} {σ:St} {H:Hp} {s:Shared} {a C dx:Addr} {fs:List (Str×V)} {f:Str} {v:V} {A:Around} {E:Value->Shared->Prop}
end
section
variable {X:Cx} {pins:List (Addr×Obj)} {σ:St} {H:Hp} {s:Shared} {A:Around} {E:Value->Shared->Prop} {Q:Value->Shared->Prop} {c:Value} {b:Bool}
inductive TyOf (K : PySem.W.Frag) (H : Hp) : V → Value → Prop where
 | non : TyOf K H .non (.type "NoneType")
 | bl (x : Bool) : TyOf K H (.bl x) (.type "bool")
 | int (i : Int) : TyOf K H (.int i) (.type "int")
 | str (x : Str) : TyOf K H (.str x) (.type "str")
 | flt (x : UInt64) : TyOf K H (.flt x) (.type "float")
 | lst {a : Addr} {xs : List V} (e : H a = some (.lst xs)) : TyOf K H (.ref a) (.type "list")
 | frz {a : Addr} {o : Obj} {xs : List V} (e : H a = some (.frz o (.lst xs))) : TyOf K H (.ref a) (.type "list")
 | tup {a : Addr} {xs : List V} (e : H a = some (.tup xs)) : TyOf K H (.ref a) (.type "tuple")
 | dK {a : Addr} {kvs : List (Key × V)} (e : H a = some (.dK kvs)) : TyOf K H (.ref a) (.type "dict")
 | dT {a : Addr} {kvs : List (List Key × V)} (e : H a = some (.dT kvs)) : TyOf K H (.ref a) (.type "dict")
 | ins {a C dx : Addr} {fs : List (Str × V)} (e : H a = some (.ins C dx fs)) (cl : Cls K C) (ha : PySem.W.findIn K (.ref C) "__class__" = some (some (.builtin "object.__class__")))
   (hn : PySem.W.specialIn K (.builtin "object.__class__") "__get__" = some (some (.builtin "getset_descriptor.__get__"))) (htk : PySem.W.takesIn K (.builtin "object.__class__") = some true)
   (hm : PySem.W.mroIn K C (.type "object") = some true) : TyOf K H (.ref a) (.ref C)
theorem isinst_ok{x:V}{u t:Value}(I:Inv X pins σ H s)(rx:RelV x u)(ty:TyOf X.K H x t)(e:PySem.W.kitOne X.K t c=some b)(h:∀ tk,Q (.bool b) { s with toks:=tk }):
  wpAny (model X.prog X.w) A (call (.builtin "isinstance") [u,c]) Q E s:=by
 cases ty with
 | non=>cases (show u=Value.none from rx);exact PySem.W.kia_one PySem.W.kitx_none I.kIn True.intro e (fun z=>nomatch z) h
 | bl y=>cases (show u=Value.bool y from rx);exact PySem.W.kia_one PySem.W.kitx_bool I.kIn True.intro e (fun z=>nomatch z) h
 | int i=>obtain⟨t,q⟩:=(show ∃ t,u=Value.int i t from rx);cases q;exact PySem.W.kia_one PySem.W.kitx_int I.kIn True.intro e (fun z=>nomatch z) h
 | str y=>obtain⟨t,q⟩:=(show ∃ t,u=Value.str y t from rx);cases q;exact PySem.W.kia_one PySem.W.kitx_str I.kIn True.intro e (fun z=>nomatch z) h
 | flt y=>obtain⟨t,q⟩:=(show ∃ t,u=Value.float y t from rx);cases q;exact PySem.W.kia_one PySem.W.kitx_float I.kIn True.intro e (fun z=>nomatch z) h
 | @lst a xs ea=>
  cases (show u=Value.ref a from rx)
  obtain⟨_,_,n,_,h1⟩:=(show ObjOk X.prog X.w H s.heap a (.lst xs) from I.hok a _ ea)
  exact PySem.W.kia_one PySem.W.kitx_list I.kIn ⟨_,h1,rfl⟩ e (fun z=>nomatch z) h
 | @frz a ob xs ea=>
  cases (show u=Value.ref a from rx)
  obtain⟨_,_,_,n,_,h1⟩:=(show ObjOk X.prog X.w H s.heap a (.frz ob (.lst xs)) from I.hok a _ ea)
  exact PySem.W.kia_one PySem.W.kitx_list I.kIn ⟨_,h1,rfl⟩ e (fun z=>nomatch z) h
 | @tup a xs ea=>
  cases (show u=Value.ref a from rx)
  obtain⟨_,_,_,p⟩:=(show ObjOk X.prog X.w H s.heap a (.tup xs) from I.hok a _ ea)
  obtain⟨o,h1,h2,_⟩:=p
  exact PySem.W.kia_one PySem.W.kitx_tuple I.kIn ⟨o,h1,h2⟩ e (fun z=>nomatch z) h
 | @dK a kvs ea=>
  cases (show u=Value.ref a from rx)
  obtain⟨_,_,vs,_,p⟩:=(show ObjOk X.prog X.w H s.heap a (.dK kvs) from I.hok a _ ea)
  obtain⟨o,es,ep,h1,h2,_⟩:=p
  exact PySem.W.kia_one PySem.W.kitx_dict I.kIn ⟨o,h1,h2.1⟩ e (fun z=>nomatch z) h
 | @dT a kvs ea=>
  cases (show u=Value.ref a from rx)
  obtain⟨_,_,xs,_,o,es,ep,h1,h2,_⟩:=(show ObjOk X.prog X.w H s.heap a (.dT kvs) from I.hok a _ ea)
  exact PySem.W.kia_one PySem.W.kitx_dict I.kIn ⟨o,h1,h2.1⟩ e (fun z=>nomatch z) h
 | @ins a C dx fs ea cl ha hn htk hm=>
  cases (show u=Value.ref a from rx)
  obtain⟨mA,O,_⟩:=ins_get I.hok ea
  obtain⟨od,J,_⟩:=O.look
  exact PySem.W.kia_one (PySem.W.kitx_own (cl.get _) cl.hd ha hn htk hm) I.kIn J e (fun z=>nomatch z) h
end
end L2
namespace L2
open PySem PySem.Spec PyProof.Rows
structure Room (k:Nat) (A:Around):Prop where
 hd:A.handled=none
 dp:A.depth+3 * k+5<recursionLimit
 un:A.units+16 * k+200<cLine
 gd:A.guards=some []
theorem Room.mono{j k:Nat}{A:Around}(r:Room k A)(h:j<=k):Room j A:=⟨r.hd,by have:=r.dp;omega,by have:=r.un;omega,r.gd⟩
theorem Room.deeper{k:Nat}{A:Around}(r:Room (k+1) A)(env:Env):Room k (A.deeper env):=
 ⟨r.hd,by have:=r.dp;show A.depth+1+3 * k+5<_;omega,by have:=r.un;show A.units+3+16 * k+200<_;omega,r.gd⟩
theorem Room.in1{k:Nat}{A:Around}(r:Room (k+1) A):Room k A.in1:=
 ⟨r.hd,by have:=r.dp;show A.depth+3 * k+5<_;omega,by have:=r.un;show A.units+1+16 * k+200<_;omega,r.gd⟩
theorem Room.depth{k:Nat}{A:Around}(r:Room k A):A.depth<recursionLimit:=by have:=r.dp;omega
theorem Room.units{k:Nat}{A:Around}(r:Room k A):A.units+64<cLine:=by have:=r.un;omega
def tNil:TA:=fun _ H Q=>Q [] H
def tCons(ta:TE)(tr:TA):TA:=fun σ H Q=>ta σ H fun x H1=>tr σ H1 fun xs H2=>Q (x::xs) H2
section
variable {X:Cx} {e:Expr} {es:List Expr} {te:TE} {t:TA} {pos:Pos}
theorem pa_nil:PA X [] tNil:=fun _ _ _ _ H Q I h=>Calls.spliced_nil ⟨[],H,I,.nil,h⟩
theorem pa_cons(ha:PE X e te)(hr:PA X es t)(hs:starEach (e::es) X.env=(false,eval e X.env)::starEach es X.env:=by rfl):PA X (e::es) (tCons te t):=by
 intro pos pins s σ H Q I h
 rw [hs]
 show wpAny _ _ (spliced ((false,eval e X.env)::backTo pos (starEach es X.env))) _ _ s
 refine Calls.spliced_cons (thn (ha pins s σ H _ I h) fun u s1 ⟨x,H1,I1,r1,q1⟩=>?_)
 exact thn (hr pos pins s1 σ H1 _ I1 q1) fun us s2 ⟨xs,H2,I2,r2,q2⟩=>⟨x::xs,H2,I2,.cons r1 r2,q2⟩
def tTup(t:TA):TE:=fun σ H Q=>t σ H fun xs H1=>xs.length<=sizeLine/\∀ p,H1 p=none->Q (.ref p) (upd H1 p (.tup xs))
def tLst(t:TA):TE:=fun σ H Q=>t σ H fun xs H1=>xs.length<=sizeLine/\∀ p,H1 p=none->Q (.ref p) (upd H1 p (.lst xs))
theorem pe_tup{x1}(h:PA X es t):PE X (.Tuple es x1 pos) (tTup t):=by
 intro pins s σ H Q I hq
 refine wpAny_Tuple_spliced (thn (h pos pins s σ H _ I hq) fun us s1 ⟨xs,H1,I1,r,z,q⟩=>⟨by rw [<-r.length];exact z,?_⟩)
 have hf:H1 s1.heap.objs.size=none:=I1.hok.fresh (Nat.le_refl _)
 refine⟨.ref s1.heap.objs.size,upd H1 s1.heap.objs.size (.tup xs),I1.laid (t':=s1.toks) (fun b u e=>Heap.get?_push_of_some _ e) (Nat.le_refl _) ?_,rfl,q _ hf⟩
 exact⟨z,us,r,⟨_,Heap.get?_push_size _ rfl,rfl,_,rfl⟩⟩
theorem pe_lst(h:PA X es t):PE X (.List es pos) (tLst t):=by
 intro pins s σ H Q I hq
 refine wpAny_List_spliced (thn (h pos pins s σ H _ I hq) fun us s1 ⟨xs,H1,I1,r,z,q⟩=>⟨by rw [<-r.length];exact z,?_⟩)
 have hf:H1 s1.heap.objs.size=none:=I1.hok.fresh (Nat.le_refl _)
 refine⟨.ref s1.heap.objs.size,upd H1 s1.heap.objs.size (.lst xs),I1.laid (t':=s1.toks) (fun b u e=>Heap.get?_push_of_some _ e) (Nat.le_refl _) ?_,rfl,q _ hf⟩
 exact⟨z,us,0,r,Heap.get?_push_size _ rfl⟩
end
abbrev Sp:=List V->Hp->VK->XK->Prop
abbrev CXT:=List Env->Hp->Shared->XK->Value->Shared->Prop
structure Env0 (P:Program) (w:World) (K:PySem.W.Frag) (mg:Str->Option Value) (base:Heap) (A:Around) (outer:List Env) (s:Shared) (H:Hp):Prop where
 frames:A.frames=some outer
 mod:Mod K mg base
 bs:∀ b o,base.get? b=some o->s.heap.get? b=some o/\H b=none
 bsz:base.objs.size<=s.heap.objs.size
 funs:s.heap.FunFrames base outer
 frf:∀ b∈frs outer,H b=none
 hok:HOk P w H s.heap
 bare:AllBare s.gens
def CE(outer:List Env)(P:Program)(w:World)(H:Hp)(s:Shared)(Q:VK)(u:Value)(s':Shared):Prop:=
 ∃ v H',s'.os=s.os/\AllBare s'.gens/\Un (frs outer) [] H H' s.heap s'.heap/\HOk P w H' s'.heap/\RelV v u/\Q v H'
def CR(CX:CXT)(outer:List Env)(P:Program)(w:World)(H:Hp)(s:Shared)(Q:VK)(E:XK)(r:Result)(s':Shared):Prop:=
 match r with
 | .ok (.ret u)=>CE outer P w H s Q u s'
 | .ok _=>False
 | .error e=>CX outer H s E e s'
structure FnOk (P:Program) (w:World) (K:PySem.W.Frag) (mg:Str->Option Value) (base:Heap) (CX:CXT) (k:Nat) (f:Addr) (fd:FuncData) (ps:List Str) (sp:Sp):Prop where
 len:∀ vs H Q E,sp vs H Q E->vs.length=ps.length
 run:∀ (A:Around) (outer:List Env) (s:Shared) (H:Hp) (args:Args) (us:List Value) (vs:List V) (Q:VK) (E:XK),Room k A->Env0 P w K mg base A outer s H->BindsTo s fd args (ps.zip us)->Vals vs us->sp vs H Q E →
  codeAny (model P w) A (.call (.ref f) args) (CR CX outer P w H s Q E) s
theorem Env0.in1{P:Program}{w:World}{K:PySem.W.Frag}{mg:Str->Option Value}{base:Heap}{A:Around}{outer:List Env}{s:Shared}{H:Hp}(e:Env0 P w K mg base A outer s H):
  Env0 P w K mg base A.in1 outer s H:=⟨e.frames,e.mod,e.bs,e.bsz,e.funs,e.frf,e.hok,e.bare⟩
section
variable {X:Cx} {pins:List (Addr×Obj)} {σ:St} {H:Hp} {s s':Shared}
theorem Inv.env0(I:Inv X pins σ H s):Env0 X.prog X.w X.K X.mg X.base X.A X.stack s H:=
 ⟨I.ok.frames,I.ok.mod,I.bs,Nat.le_trans I.ok.bsz I.sz,I.stack,I.stkFree,I.hok,I.bare⟩
theorem Inv.after{Q:VK}{u:Value}(I:Inv X pins σ H s)(h:CE X.stack X.prog X.w H s Q u s'):EP X pins σ Q u s':=by
 obtain⟨v,H',os,bare,un,hok,r,q⟩:=h
 obtain⟨hh,g,d,t,os'⟩:=s'
 obtain rfl:os'=s.os:=os
 exact⟨v,H',I.call (h':=hh) (g':=g) (d':=d) (t':=t) (ch:=[]) un hok bare (fun b z=>absurd z (by simp)),r,q⟩
end
def tCall(sp:Sp)(dvs:List V)(E:XK)(t:TA):TE:=fun σ H Q=>t σ H fun vs H1=>sp (vs++dvs) H1 Q E
def Binds(K:PySem.W.Frag)(fd:FuncData)(ps:List Str)(ds:List Value):Prop:=
 ∀ (s:Shared) (us:List Value),K.In s.heap->(us++ds).length=ps.length->BindsTo s fd ⟨us,[]⟩ (ps.zip (us++ds))
theorem Binds.all{K:PySem.W.Frag}{fd:FuncData}{ps:List Str}(h:∀ us:List Value,us.length=ps.length->bindArgs fd ⟨us,[]⟩=pure (ps.zip us)):Binds K fd ps []:=fun s us _ hl=>by
 rw [List.append_nil] at hl ⊢
 exact .of_eq (h us hl)
def Passes(CX:CXT)(X:Cx)(E:XK):Prop:=∀ (pins:List (Addr×Obj)) (σ:St) (H:Hp) (s:Shared) (e:Value) (s':Shared),Inv X pins σ H s->CX X.stack H s E e s'->X.xe e s'
section
variable {X:Cx} {CX:CXT} {k:Nat} {f C:Addr} {fd:FuncData} {ps:List Str} {sp:Sp} {dvs:List V} {ds:List Value} {E:XK} {x m:Str} {p pos apos:Pos} {e o:Expr} {es:List Expr} {ta:TE} {t:TA}
theorem run_fn{pins:List (Addr×Obj)}{σ:St}{H:Hp}{s:Shared}{Q:VK}{us:List Value}{vs:List V}(F:FnOk X.prog X.w X.K X.mg X.base CX k f fd ps sp)(hr:Room k X.A)(hb:Binds X.K fd ps ds)(hd:Vals dvs ds)(hx:Passes CX X E)
  (I:Inv X pins σ H s) (r:Vals vs us) (h:sp (vs++dvs) H Q E):wpAny (model X.prog X.w) X.A (call (.ref f) us) (EP X pins σ Q) X.xe s:=by
 have r2:Vals (vs++dvs) (us++ds):=r.append hd
 have hl:(us++ds).length=ps.length:=by rw [<-r2.length];exact F.len _ _ _ _ h
 refine wpAny_call (codeAny_mono (F.run X.A X.stack s H ⟨us,[]⟩ (us++ds) (vs++dvs) Q E hr I.env0 (hb s us I.kIn hl) r2 h) fun r s' hq=>?_)
 cases r with
 | error e=>exact hx pins σ H s e s' I hq
 | ok fl=>
  cases fl with
  | ret u=>exact I.after hq
  | next=>exact False.elim hq
  | brk=>exact False.elim hq
  | cont=>exact False.elim hq
theorem pe_call(F:FnOk X.prog X.w X.K X.mg X.base CX k f fd ps sp)(hr:Room k X.A)(hg:Gl X x)(hm:X.mg x=some (.ref f))(hk:PySem.W.keepIn X.K (.ref f)=true)(hb:Binds X.K fd ps ds)(hd:Vals dvs ds)(hx:Passes CX X E)
  (ha:PA X (e::es) t) (hdb:(x==("__debug__":Str))=false:=by decide) (he:starEach (e::es) X.env=(false,eval e X.env)::starEach es X.env:=by rfl) (hpl:(backTo pos (starEach es X.env)).any (·.1)=false:=by rfl) :
  PE X (.Call (.Name x p) (e::es) [] pos) (tCall sp dvs E t):=by
 intro pins s σ H Q I h
 refine wpAny_Call_Name_kw (ld_glob I hg hm ?_ hdb)
 refine PySem.W.callWith_K (h₀:=X.base) I.ok.mod.kin hk (thn (ha pos pins s σ H _ I h) fun us s1 ⟨vs,H1,I1,r,q⟩=>⟨I1.kIn,?_⟩) he hpl
 exact run_fn F hr hb hd hx I1 r q
end
structure FnScope (N P:List Str) (sc:Scope):Prop where
 kind:sc.kind=.function
 co:sc.isCoroutine=false
 gen:sc.isGenerator=false
 nd:N.Nodup
 pre:N.take P.length=P
 par:∀ x∈P,sc.names.lookup x=some .local\/sc.names.lookup x=some .cell
 nofree:∀ y∈sc.names,y.2≠.free
theorem bindL_out{kindOf:Str->Option NameKind}{x:Str}:∀ {binds:List (Str×Value)} {m:Str->Option Value},(∀ v,(x,v)∉binds)->bindL kindOf binds m x=m x
 | [],_,_=>rfl
 | (n,v)::r,m,h=>by
  unfold bindL
  rw [bindL_out fun w hw=>h w (List.mem_cons_of_mem _ hw)]
  split
  ·have:x≠n:=by rintro rfl;exact h v List.mem_cons_self
   simp [this]
  ·rfl
theorem bindC_out{kindOf:Str->Option NameKind}{x:Str}:∀ {binds:List (Str×Value)} {m:Str->Option Value},(∀ v,(x,v)∉binds)->bindC kindOf binds m x=m x
 | [],_,_=>rfl
 | (n,v)::r,m,h=>by
  unfold bindC
  rw [bindC_out fun w hw=>h w (List.mem_cons_of_mem _ hw)]
  split
  ·rfl
  ·have:x≠n:=by rintro rfl;exact h v List.mem_cons_self
   simp [this]
theorem bindL_get{kindOf:Str->Option NameKind}{x:Str}{v:Value}:∀ {P:List Str} {vs:List Value} {i:Nat} {m:Str->Option Value},P.Nodup->P[i]? = some x->vs[i]? = some v->kindOf x=some .local →
  bindL kindOf (P.zip vs) m x=some v
 | [],_,_,_,_,h,_,_=>by simp at h
 | _::_,[],_,_,_,_,h,_=>by simp at h
 | p::P,w::vs,0,m,nd,h1,h2,hk=>by
  simp at h1 h2;subst h1;subst h2
  show bindL kindOf ((p,w)::P.zip vs) m p=_
  unfold bindL
  rw [bindL_out fun v hv=>(List.nodup_cons.mp nd).1 (List.of_mem_zip hv).1,if_pos hk]
  simp
 | p::P,w::vs,i+1,m,nd,h1,h2,hk=>by
  show bindL kindOf ((p,w)::P.zip vs) m x=_
  unfold bindL
  exact bindL_get (i:=i) (List.nodup_cons.mp nd).2 (by simpa using h1) (by simpa using h2) hk
theorem bindC_get{kindOf:Str->Option NameKind}{x:Str}{v:Value}:∀ {P:List Str} {vs:List Value} {i:Nat} {m:Str->Option Value},P.Nodup->P[i]? = some x->vs[i]? = some v->kindOf x≠some .local →
  bindC kindOf (P.zip vs) m x=some v
 | [],_,_,_,_,h,_,_=>by simp at h
 | _::_,[],_,_,_,_,h,_=>by simp at h
 | p::P,w::vs,0,m,nd,h1,h2,hk=>by
  simp at h1 h2;subst h1;subst h2
  show bindC kindOf ((p,w)::P.zip vs) m p=_
  unfold bindC
  rw [bindC_out fun v hv=>(List.nodup_cons.mp nd).1 (List.of_mem_zip hv).1,if_neg hk]
  simp
 | p::P,w::vs,i+1,m,nd,h1,h2,hk=>by
  show bindC kindOf ((p,w)::P.zip vs) m x=_
  unfold bindC
  exact bindC_get (i:=i) (List.nodup_cons.mp nd).2 (by simpa using h1) (by simpa using h2) hk
def start(N:List Str)(vs:List V):St:=vs.map some++List.replicate (N.length - vs.length) none
def cxOf(CX:CXT)(P:Program)(w:World)(K:PySem.W.Frag)(mg:Str->Option Value)(base:Heap)(N:List Str)(qual:Str)(scope:Scope)(f:Addr)(cd:Value)(A:Around)(outer:List Env)(s:Shared)(H:Hp)(E:XK):Cx where
 prog:=P
 w:=w
 K:=K
 mg:=mg
 base:=base
 A:=A.deeper (envOfC qual scope s.heap.objs.size f cd)
 N:=N
 s₀:=s
 H₀:=H
 env:=envOfC qual scope s.heap.objs.size f cd
 outer:=outer
 stack:=envOfC qual scope s.heap.objs.size f cd::outer
 ex:=[]
 calm:=true
 fn:=fun _=>true
 pn:=[]
 xe:=fun e s'=>wpAny (model P w) (A.deeper (envOfC qual scope s.heap.objs.size f cd)) (leaving (envOfC qual scope s.heap.objs.size f cd) e) (fun _ s''=>CX outer H s E e s'') (fun e' s''=>CX outer H s E e' s'') s'
theorem cell_has{sc:Scope}{n:Nat}{x:Str}(h:sc.names.lookup x=some .cell):∃ c,(cellsFrom n sc.names []).lookup x=some c:=by
 have q:=PySem.W.cellsFrom_some sc.names n [] (.inl h)
 exact Option.isSome_iff_exists.mp q
theorem inv_start{CX:CXT}{P:Program}{w:World}{K:PySem.W.Frag}{mg:Str->Option Value}{base:Heap}{N ps:List Str}{qual:Str}{scope:Scope}{f:Addr}{cd:Value}{A:Around}{outer:List Env}{s s1:Shared}{H:Hp}{E:XK}{us:List Value}{vs:List V}
  (S:FnScope N ps scope) (hd:A.handled=none) (e0:Env0 P w K mg base A outer s H) (hl:vs.length=ps.length) (r:Vals vs us)
  (x:InCallC s s.heap.objs.size (bindL (envOfC qual scope s.heap.objs.size f cd).kindOf (ps.zip us) fun _=>none) (cellsFrom (s.heap.objs.size+1) scope.names []) (bindC (envOfC qual scope s.heap.objs.size f cd).kindOf (ps.zip us) fun _=>none) s1) :
  Inv (cxOf CX P w K mg base N qual scope f cd A outer s H E) [] (start N vs) H s1:=by
 have hpl:ps.length<=N.length:=by have:=congrArg List.length S.pre;rw [List.length_take] at this;omega
 obtain⟨h1,tk,rfl,hk⟩:=x.done
 have noA:∀ b:Addr,b∉(cxOf CX P w K mg base N qual scope f cd A outer s H E).ex:=fun b z=>absurd (show b∈([]:List Addr) from z) (by simp)
 refine⟨⟨e0.mod,S.kind,rfl,rfl,Nat.le_refl _,fun y z c h1 h2=>?_,fun y hy=>?_,fun y c _ h=>?_,fun _=>hd,Around.frames_deeper e0.frames,.inr ⟨rfl,rfl⟩,fun b z=>absurd z (noA b),e0.bs,e0.bsz,fun b _ _=>noA b,fun b z=>absurd z (noA b),e0.funs,e0.frf⟩,
  rfl,e0.bare,Un.kept hk,⟨_,x.toInCall.ns,fun i y v h1 h2 h3=>?_⟩,fun y c h=>⟨_,x.cell y c h⟩,e0.hok.fresh (Nat.le_refl _),fun y c h=>?_,fun p hp=>absurd (show p∈([]:List (Addr×Obj)) from hp) (by simp),e0.hok.kept hk,?_⟩
 ·exact name_of_addr x.apart (PySem.mem_of_lookup h1) (PySem.mem_of_lookup h2)
 ·have hy:scope.names.lookup y=some .cell\/scope.names.lookup y=some .free:=hy
  rcases hy with hy | hy
  ·exact cell_has hy
  ·exact absurd rfl (S.nofree _ (PySem.mem_of_lookup hy))
 ·exact Nat.le_of_lt (x.above y c (PySem.mem_of_lookup h))
 ·have hi:i<vs.length:=by
   unfold start at h2
   by_cases hi:i<vs.length
   ·exact hi
   ·rw [List.getElem?_append_right (by simpa using hi)] at h2
    rw [List.getElem?_replicate] at h2
    split at h2<;>cases h2
  have ha:vs[i]? = some v:=by
   unfold start at h2
   rw [List.getElem?_append_left (by simpa using hi),List.getElem?_map] at h2
   cases e:vs[i]? with
   | none=>rw [e] at h2;cases h2
   | some a=>rw [e] at h2;cases h2;rfl
  obtain⟨u,hu,rv⟩:=r.get ha
  have hp:ps[i]? = some y:=by
   rw [<-S.pre,List.getElem?_take_of_lt (by omega)];exact h1
  have ndP:ps.Nodup:=by rw [<-S.pre];exact S.nd.sublist (List.take_sublist _ _)
  refine⟨u,rv,?_⟩
  rcases S.par y (List.mem_of_getElem? hp) with k | k
  ·exact .inl ⟨k,bindL_get ndP hp hu k⟩
  ·obtain⟨c,e⟩:=cell_has (n:=s.heap.objs.size+1) k
   refine .inr ⟨.inl k,c,e,?_⟩
   have q:=x.cell y c e
   rw [bindC_get ndP hp hu (by show scope.names.lookup y≠_;rw [k];decide)] at q
   exact q
 ·exact e0.hok.fresh (Nat.le_of_lt (x.above y c (PySem.mem_of_lookup h)))
 ·unfold start
  show _=N.length
  rw [List.length_append,List.length_map,List.length_replicate]
  omega
theorem fn_of{CX:CXT}{P:Program}{w:World}{K:PySem.W.Frag}{mg:Str->Option Value}{base:Heap}{k:Nat}{f:Addr}{name qual:Str}{params:Arguments}{body:List Stmt}{scope:Scope}{dV kV doc pm cdv ct oc:Value}{an od:Option Addr}
  {osl:Array (Option Value)} {N ps:List Str} {sp:Sp} (lk:K.lookup f=some ⟨oc,od,.func (PySem.W.fnOf name qual params body scope dV kV doc pm an cdv ct),osl⟩) (hcd:PySem.W.codeIn K cdv qual=true) (S:FnScope N ps scope)
  (len:∀ vs H Q E,sp vs H Q E->vs.length=ps.length)
  (hbody:∀ (A:Around) (outer:List Env) (s:Shared) (H:Hp) (vs:List V) (Q:VK) (E:XK),Room k (A.deeper (envOfC qual scope s.heap.objs.size f cdv))->sp vs H Q E →
   ∃ t,PSs (cxOf CX P w K mg base N qual scope f cdv A outer s H E) body t/\t { nx:=fun _ H'=>Q .non H',rt:=Q } (start N vs) H) :
  FnOk P w K mg base CX (k+1) f (PySem.W.fnOf name qual params body scope dV kV doc pm an cdv ct) ps sp:=by
 refine⟨len,fun A outer s H args us vs Q E hr e0 hb r hsp=>?_⟩
 have hl:=len _ _ _ _ hsp
 have KX:K.In s.heap:=e0.mod.kin.keeps fun b o e=>(e0.bs b o e).1
 have lim:s.heap.NoLimit:=e0.mod.nolimit.keeps fun b o e=>(e0.bs b o e).1
 have hkind:∀ y∈ps.zip us,scope.names.lookup y.1=some .local\/(scope.names.lookup y.1=some .cell/\((cellsFrom (s.heap.objs.size+1) scope.names []).lookup y.1).isSome=true):=fun ⟨n,v⟩ hy=>by
  rcases S.par n (List.of_mem_zip hy).1 with q | q
  ·exact .inl q
  ·exact .inr ⟨q,PySem.W.cellsFrom_some _ _ _ (.inl q)⟩
 refine codeAny_call_function hr.depth (KX _ _ lk) rfl S.co S.gen rfl (PySem.W.codeRec_of KX hcd) (hb _ _ _ _ ?_)
 refine wpAny_newFunctionEnv_cells S.kind hkind fun env he s1 x=>?_
 subst he
 refine⟨lim.keeps x.toInCall.keep,codeAny_func ?_⟩
 obtain⟨t,ht,hq⟩:=hbody A outer s H vs Q E (hr.deeper _) hsp
 have I:Inv (cxOf CX P w K mg base N qual scope f cdv A outer s H E) [] (start N vs) H s1:=inv_start S hr.hd e0 hl r x
 refine wpAny_mono (ht [] s1 (start N vs) H _ I hq) (fun fl s' hs=>?_) fun e s' hs=>hs
 have fin:∀ {σ':St} {H':Hp} {v:V} {u:Value},Inv (cxOf CX P w K mg base N qual scope f cdv A outer s H E) [] σ' H' s'->RelV v u->Q v H'->CE outer P w H s Q u s':=
  fun {σ' H' v u} J rv q=>⟨v,H',J.os,J.bare,J.base,J.hok,rv,q⟩
 cases fl with
 | ret u=>
  obtain⟨v,σ',H',J,rv,q⟩:=hs
  exact fin J rv q
 | next=>
  obtain⟨σ',H',J,q⟩:=hs
  exact fin (v:=V.non) (u:=Value.none) J rfl q
 | brk=>
  obtain⟨_,_,_,q⟩:=hs
  exact False.elim q
 | cont=>
  obtain⟨_,_,_,q⟩:=hs
  exact False.elim q
end L2
namespace L2
open PySem PySem.Spec PyProof.Rows
section
variable {X:Cx} {x:Str} {p pos:Pos} {e:Expr} {es:List Expr} {t:TA} {id T:String} {r:List V->Hp->VK->Prop}
def tCB(r:List V->Hp->VK->Prop)(t:TA):TE:=fun σ H Q=>t σ H fun vs H1=>r vs H1 Q
theorem pe_callB (hc:CallR X (.builtin id) r) (hg:Gl X x) (hm:X.mg x=none) (hv:bootBuiltins x=some (.builtin id)) (ha:PA X (e::es) t) (hn:x≠"__name__":=by decide) (hdb:(x==("__debug__":Str))=false:=by decide)
  (he:starEach (e::es) X.env=(false,eval e X.env)::starEach es X.env:=by rfl) (hpl:(backTo pos (starEach es X.env)).any (·.1)=false:=by rfl):PE X (.Call (.Name x p) (e::es) [] pos) (tCB r t):=by
 intro pins s σ H Q I h
 refine wpAny_Call_Name_kw (ld_blt I hg hm hv ?_ hn hdb)
 exact PyProof.Rows.callWith_builtin1 (thn (ha pos pins s σ H _ I h) fun us s1 ⟨vs,H1,I1,r1,q1⟩=>hc pins s1 σ H1 vs us Q I1 r1 q1) he hpl
theorem pe_callTy (hc:CallR X (.type T) r) (hg:Gl X x) (hm:X.mg x=none) (hv:bootBuiltins x=some (.type T)) (ha:PA X (e::es) t) (hn:x≠"__name__":=by decide) (hdb:(x==("__debug__":Str))=false:=by decide)
  (he:starEach (e::es) X.env=(false,eval e X.env)::starEach es X.env:=by rfl) (hpl:(backTo pos (starEach es X.env)).any (·.1)=false:=by rfl):PE X (.Call (.Name x p) (e::es) [] pos) (tCB r t):=by
 intro pins s σ H Q I h
 refine wpAny_Call_Name_kw (ld_blt I hg hm hv ?_ hn hdb)
 exact PyProof.Rows.callWith_type1 (thn (ha pos pins s σ H _ I h) fun us s1 ⟨vs,H1,I1,r1,q1⟩=>hc pins s1 σ H1 vs us Q I1 r1 q1) he hpl
end
end L2
namespace HT
open PySem PyProof.Rows
section
open PySem.SeqAt
open PySem.AutoSeq1 (wpAny_loadPart')
open PySem.MeetsSeq PySem.MeetsSeq2 PySem.MeetsSeq3
end
section
variable {prog:Program} {w:World} {A:Around} {E:Value->Shared->Prop} {s:Shared}
def sIx(n d:Nat):Option Int->Nat
 | none=>d
 | some v=>if v<0 then (v+(n:Int)).toNat else min v.toNat n
end
end HT
namespace L2
open PySem PySem.Spec PyProof.Rows
abbrev TO:=St->Hp->(Option Int->Hp->Prop)->Prop
def PO(X:Cx)(e:Option Expr)(t:TO):Prop:=
 ∀ (pins:List (Addr×Obj)) (s:Shared) (σ:St) (H:Hp) (Q:Option Int->Hp->Prop),Inv X pins σ H s->t σ H Q →
  wpAny (model X.prog X.w) X.A (evalPart e X.env) (fun u s'=>∃ o H',Inv X pins σ H' s'/\IsPart u o/\Q o H') X.xe s
def tNoPart:TO:=fun _ H Q=>Q none H
def tPart(t:TE):TO:=fun σ H Q=>t σ H fun x H1=>∃ i,x=.int i/\Q (some i) H1
section
variable {X:Cx} {e:Expr} {te:TE} {lo hi:Option Expr} {tl th:TO} {pos p2:Pos}
theorem po_some(h:PE X e te):PO X (some e) (tPart te):=by
 intro pins s σ H Q I hw
 rw [evalPart_some]
 refine thn (h pins s σ H _ I hw) fun u s1 ⟨x,H1,I1,r1,q1⟩=>?_
 obtain⟨i,rfl,q⟩:=q1
 obtain⟨t,rfl⟩:=r1
 exact⟨some i,H1,I1,.int i t,q⟩
def SlR(X:Cx)(r:V->Option Int->Option Int->Hp->VK->Prop):Prop:=
 ∀ (pins:List (Addr×Obj)) (s:Shared) (σ:St) (H:Hp) (x:V) (v vl vu:Value) (lo hi:Option Int) (sl:Addr) (Q:VK),Inv X pins σ H s->RelV x v->s.heap.IsSliceOf sl vl vu .none->IsPart vl lo->IsPart vu hi->r x lo hi H Q →
  ∃ T id,typeLookup (.type T) "__getitem__"=pure (some (.builtin id))/\s.TypeIs v T/\wpAny (model X.prog X.w) X.A (getItem v (.ref sl)) (EP X pins σ Q) X.xe s
def tSl(r:V->Option Int->Option Int->Hp->VK->Prop)(te:TE)(tl th:TO):TE:=fun σ H Q=>te σ H fun x H1=>tl σ H1 fun l H2=>th σ H2 fun u H3=>r x l u H3 Q
theorem pe_slice{r:V->Option Int->Option Int->Hp->VK->Prop}(hr:SlR X r)(he:PE X e te)(hl:PO X lo tl)(hu:PO X hi th):PE X (.Subscript e (.Slice lo hi none p2) pos) (tSl r te tl th):=by
 intro pins s σ H Q I h
 refine Subscript_ (thn (he pins s σ H _ I h) fun v s1 ⟨x,H1,I1,r1,q1⟩=>?_)
 refine wpAny_Slice (thn (hl pins s1 σ H1 _ I1 q1) fun vl s2 ⟨l,H2,I2,pl,q2⟩=>thn (hu pins s2 σ H2 _ I2 q2) fun vu s3 ⟨u,H3,I3,pu,q3⟩=>?_)
 rw [evalPart_none]
 refine wpAny_pure ?_
 have I4:Inv X pins σ H3 { s3 with heap:=s3.heap.push { cls:=.type "slice",data:=.fields #[vl,vu,.none] } }:=I3.kept (t':=s3.toks) fun b ob q=>Heap.get?_push_of_some _ q
 obtain⟨T,id,hT,ht,hg⟩:=hr pins { s3 with heap:=s3.heap.push { cls:=.type "slice",data:=.fields #[vl,vu,.none] } } σ H3 x v vl vu l u s3.heap.objs.size Q I4 r1 (Heap.IsSliceOf.new ..) pl pu q3
 show wpAny (model X.prog X.w) X.A (subscriptTail e (.Slice lo hi none p2) v (.ref s3.heap.objs.size)) (EP X pins σ Q) X.xe { s3 with heap:=s3.heap.push { cls:=.type "slice",data:=.fields #[vl,vu,.none] } }
 exact tail_any (ops:=[.ref s3.heap.objs.size,v]) ht hT hg (by with_unfolding_all rfl)
def cutV(xs:List V)(lo hi:Option Int):List V:=(xs.drop (HT.sIx xs.length 0 lo)).take (HT.sIx xs.length xs.length hi - HT.sIx xs.length 0 lo)
theorem cutV_length(xs:List V)(lo hi:Option Int):(cutV xs lo hi).length<=xs.length:=by
 unfold cutV
 rw [List.length_take,List.length_drop]
 omega
end
end L2
namespace L2
open PySem PySem.Spec PyProof.Rows
def ixN(n:Nat)(i:Int):Option Nat:=if 0<=i then (if i<n then some i.toNat else none) else if -(n:Int)<=i then some (i+n).toNat else none
def atI{α:Type}(xs:List α)(i:Int):Option α:=(ixN xs.length i).bind fun j=>xs[j]?
theorem ixN_seq{n:Nat}{i:Int}{j:Nat}(h:ixN n i=some j):seqIndex? i n=some j/\j<n/\-(n:Int)<=i/\i<n:=by
 unfold ixN at h
 by_cases h0:0<=i
 ·rw [if_pos h0] at h
  by_cases h1:i<n
  ·rw [if_pos h1] at h
   have e:i.toNat=j:=Option.some.inj h
   exact⟨by rw [seqIndex_of h0 h1,e],by omega,by omega,h1⟩
  ·rw [if_neg h1] at h;cases h
 ·rw [if_neg h0] at h
  by_cases h1:-(n:Int)<=i
  ·rw [if_pos h1] at h
   have e:(i+n).toNat=j:=Option.some.inj h
   exact⟨by rw [seqIndex_neg (by omega) h1,e],by omega,h1,by omega⟩
  ·rw [if_neg h1] at h;cases h
theorem atI_get{α:Type}{xs:List α}{i:Int}{v:α}(h:atI xs i=some v):∃ j,seqIndex? i xs.length=some j/\xs[j]? = some v/\j<xs.length/\-(xs.length:Int)<=i/\i<xs.length:=by
 unfold atI at h
 cases e:ixN xs.length i with
 | none=>rw [e] at h;cases h
 | some j=>
  rw [e] at h
  obtain⟨h1,h2,h3,h4⟩:=ixN_seq e
  exact⟨j,h1,h,h2,h3,h4⟩
theorem atI_nat{α:Type}{xs:List α}{j:Nat}{v:α}(h:xs[j]? = some v):atI xs (j:Int)=some v:=by
 have hj:j<xs.length:=(List.getElem?_eq_some_iff.mp h).1
 have e:ixN xs.length (j:Int)=some j:=by
  unfold ixN
  rw [if_pos (by omega),if_pos (by omega)];simp
 unfold atI;rw [e];exact h
theorem atI_last{α:Type}(xs:List α)(v:α):atI (xs++[v]) (-1)=some v:=by
 have hl:(xs++[v]).length=xs.length+1:=by simp
 have e:ixN (xs++[v]).length (-1)=some xs.length:=by
  unfold ixN
  rw [hl,if_neg (by decide),if_pos (by omega)]
  congr 1
  omega
 unfold atI
 rw [e]
 show (xs++[v])[xs.length]? = some v
 simp
def PlainIx(b:Expr):Prop:=∀ o i,subscripted b false o i=operate [o,i] (getItem o i)
def IxR(X:Cx)(r:R2):Prop:=
 ∀ (value slice:Expr) (pins:List (Addr×Obj)) (s:Shared) (σ:St) (H:Hp) (x y:V) (v u:Value) (Q:VK),Inv X pins σ H s->RelV x v->RelV y u->r x y H Q →
  subscripted slice false v u=operate [v,u] (getItem v u)->wpAny (model X.prog X.w) X.A (subscriptTail value slice v u) (EP X pins σ Q) X.xe s
def MtR(X:Cx)(id:String)(r:V->List V->Hp->VK->Prop):Prop:=
 ∀ (pins:List (Addr×Obj)) (s:Shared) (σ:St) (H:Hp) (x:V) (xs:List V) (v:Value) (us:List Value) (Q:VK),Inv X pins σ H s->RelV x v->Vals xs us->r x xs H Q →
  wpAny (model X.prog X.w) X.A (call (.builtin id) (v::us)) (EP X pins σ Q) X.xe s
section
variable {X:Cx} {a b:Expr} {ta tb:TE} {pos:Pos}
theorem IxR.or{r r':R2}(h:IxR X r)(h':IxR X r'):IxR X (fun x y H Q=>r x y H Q\/r' x y H Q):=by
 intro value slice pins s σ H x y v u Q I rx ry q hs
 rcases q with q | q
 ·exact h value slice pins s σ H x y v u Q I rx ry q hs
 ·exact h' value slice pins s σ H x y v u Q I rx ry q hs
theorem pe_ix{r:R2}(hr:IxR X r)(ha:PE X a ta)(hb:PE X b tb)(hs:PlainIx b):PE X (.Subscript a b pos) (tOp r ta tb):=by
 intro pins s σ H Q I h
 exact Subscript_ (binT ha hb I h fun v u s2 x y H2 I2 rx ry q=>hr a b pins s2 σ H2 x y v u Q I2 rx ry q (hs _ _))
def rIxL(K:PySem.W.Frag):R2:=fun x y H Q=>∃ p xs i v,x=.ref p/\y=.int i/\SqL K H p xs/\atI xs i=some v/\Q v H
def rIxT(K:PySem.W.Frag):R2:=fun x y H Q=>∃ p xs i v,x=.ref p/\y=.int i/\SqT K H p xs/\atI xs i=some v/\Q v H
def rIxS:R2:=fun x y H Q=>∃ z i c,x=.str z/\y=.int i/\z.length<=sizeLine/\atI z.cps.toList i=some c/\Q (.str ⟨#[c]⟩) H
theorem ix_list:IxR X (rIxL X.K):=by
 intro value slice pins s σ H x y v u Q I rx ry h hs
 obtain⟨p,xs,i,z,rfl,rfl,hq,he,q⟩:=h
 cases rx
 obtain⟨t,rfl⟩:=ry
 obtain⟨its,r,pl,hz⟩:=I.list hq
 obtain⟨j,h1,h2,h3,h4,h5⟩:=atI_get he
 obtain⟨w,ew,rw'⟩:=r.get h2
 have hl:=r.length
 have hn:=line63
 have fin:EP X pins σ Q w s:=⟨z,H,I,rw',q⟩
 by_cases h0:0<=i
 ·have hj:i.toNat=j:=by
   rw [seqIndex_of h0 h5] at h1
   exact Option.some.inj h1
  exact item_listR pl.isList h0 (by omega) (by rw [hj];simpa using ew) fin hs
 ·have hj:(i+(its.toArray.size:Int)).toNat=j:=by
   rw [seqIndex_neg (by omega) h4] at h1
   rw [List.size_toArray,<-hl]
   exact Option.some.inj h1
  exact subscriptTail_builtinR (x:=w) pl.isList.typeIs slot_list_getitem.lookup
   (wpAny_getItem_list_neg (Q:=fun r s'=>r=w/\EP X pins σ Q r s') pl.isList (by omega) (by rw [List.size_toArray]<;>omega) (by omega) (by rw [hj];simpa using ew) ⟨rfl,fin⟩) hs
theorem ix_tup:IxR X (rIxT X.K):=by
 intro value slice pins s σ H x y v u Q I rx ry h hs
 obtain⟨p,xs,i,z,rfl,rfl,hq,he,q⟩:=h
 cases rx
 obtain⟨t,rfl⟩:=ry
 obtain⟨its,r,pl,hz⟩:=I.tuple hq
 obtain⟨j,h1,h2,h3,h4,h5⟩:=atI_get he
 obtain⟨w,ew,rw'⟩:=r.get h2
 have hl:=r.length
 have hn:=line63
 have fin:EP X pins σ Q w s:=⟨z,H,I,rw',q⟩
 exact subscriptTail_builtinR (x:=w) pl.typeIs slot_tuple_getitem.lookup
  (getItem_tuple (j:=j) (Q:=fun r s'=>r=w/\EP X pins σ Q r s') pl (by omega) (by omega) (by rw [List.size_toArray,<-hl];exact h1) (by simpa using ew) ⟨rfl,fin⟩) hs
theorem ix_str:IxR X rIxS:=by
 intro value slice pins s σ H x y v u Q I rx ry h hs
 obtain⟨z,i,c,rfl,rfl,hz,he,q⟩:=h
 obtain⟨t,rfl⟩:=rx
 obtain⟨t',rfl⟩:=ry
 obtain⟨j,h1,h2,h3,h4,h5⟩:=atI_get he
 have hl:z.cps.toList.length=z.length:=by simp [Str.length]
 rw [hl] at h1 h4 h5
 have hn:=line63
 exact tail_any (typeIs_str s z t) slot_str_getitem.lookup (getItem_str (c:=c) (by
  have e1:decide (i < -(2 ^ 63:Int))=false:=decide_eq_false (by omega)
  have e2:decide (i>=2 ^ 63)=false:=decide_eq_false (by omega)
  rw [e1,e2,Bool.or_false]) (by rw [h1];simpa using h2) ⟨.str ⟨#[c]⟩,H,I.tok _,⟨_,rfl⟩,q⟩) hs
def rIx(K:PySem.W.Frag):R2:=fun x y H Q=>rIxL K x y H Q\/rIxT K x y H Q\/rIxS x y H Q
theorem ix_seq:IxR X (rIx X.K):=ix_list.or (ix_tup.or ix_str)
theorem mapSeq_set (its:List Value) (n j:Nat) (u:Value):Obj.mapSeq (·.setIfInBounds j u) { cls:=.type "list",data:=.seq its.toArray n }={ cls:=.type "list",data:=.seq (its.set j u).toArray n }:=by
 simp [Obj.mapSeq]
theorem Inv.lst{pins:List (Addr×Obj)}{σ:St}{H:Hp}{s:Shared}{p:Addr}{xs:List V}(I:Inv X pins σ H s)(h:H p=some (.lst xs)):
  ∃ (its:List Value) (n:Nat),Vals xs its/\s.heap.get? p=some { cls:=.type "list",data:=.seq its.toArray n }/\xs.length<=sizeLine:=by
 obtain⟨z,its,n,r,e⟩:=I.hok p _ h
 exact⟨its,n,r,e,z⟩
theorem Inv.lstUpd{pins:List (Addr×Obj)}{σ:St}{H:Hp}{s:Shared}{p:Addr}{xs ys:List V}{its its':List Value}{n n':Nat}{f:Obj->Obj}(I:Inv X pins σ H s)(h:H p=some (.lst xs))
  (ho:s.heap.get? p=some { cls:=.type "list",data:=.seq its.toArray n }) (hf:f { cls:=.type "list",data:=.seq its.toArray n }={ cls:=.type "list",data:=.seq its'.toArray n' }) (r:Vals ys its') (hz:ys.length<=sizeLine) (t:Nat) :
  Inv X pins σ (upd H p (.lst ys)) { s with heap:=s.heap.update p f,toks:=t }:=by
 have e:(s.heap.update p f).get? p=some { cls:=.type "list",data:=.seq its'.toArray n' }:=by
  rw [Heap.get?_update_self f ho (by rw [hf]<;>rfl),hf]
 refine I.write (x:=p) (e:=p) (by rw [h];trivial) (.inl rfl) (fun b u hb q=>(Heap.get?_update_other _ _ (Ne.symm hb)).trans q) ⟨_,e⟩ ?_
 exact⟨hz,its',n',r,e⟩
def rSetL:V->V->V->Hp->(Hp->Prop)->Prop:=fun o i v H Q=>∃ p xs k j,o=.ref p/\i=.int k/\H p=some (.lst xs)/\ixN xs.length k=some j/\Q (upd H p (.lst (xs.set j v)))
theorem set_list:PSet X rSetL:=by
 intro pins s σ H o i v ov iv u Q I ro ri rv h
 obtain⟨p,xs,k,j,rfl,rfl,hp,hj,q⟩:=h
 cases ro
 obtain⟨t,rfl⟩:=ri
 obtain⟨its,n,r,ho,hz⟩:=I.lst hp
 obtain⟨h1,h2,h3,h4⟩:=ixN_seq hj
 have hl:=r.length
 have hn:=line63
 have I':Inv X pins σ (upd H p (.lst (xs.set j v))) { s with heap:=s.heap.update p (Obj.mapSeq (·.setIfInBounds j u)) }:=
  I.lstUpd hp ho (mapSeq_set its n j u) (r.set rv j) (by rw [List.length_set];exact hz) s.toks
 by_cases h0:0<=k
 ·have hk:k.toNat=j:=by
   rw [seqIndex_of h0 h4] at h1
   exact Option.some.inj h1
  exact PySem.W.ki_setAt ho h0 (by omega) (by rw [List.size_toArray,<-hl];exact h4) (by rw [hk];exact⟨_,I',q⟩)
 ·have hk:(k+(its.toArray.size:Int)).toNat=j:=by
   rw [seqIndex_neg (by omega) h3] at h1
   rw [List.size_toArray,<-hl]
   exact Option.some.inj h1
  exact PySem.W.ki_setBack ho (by omega) (by rw [List.size_toArray,<-hl];exact h3) (by omega) (by rw [hk];exact⟨_,I',q⟩)
theorem slice_bounds(lo hi:Option Int)(n:Nat):(sliceBounds lo hi none n).1=((HT.sIx n 0 lo:Nat):Int)/\(sliceBounds lo hi none n).2.1=((HT.sIx n n hi:Nat):Int)/\(sliceBounds lo hi none n).2.2=1:=by
 refine⟨?_,?_,rfl⟩
 ·cases lo with
  | none=>simp [sliceBounds,HT.sIx]
  | some i=>
   simp only [sliceBounds,HT.sIx,Option.getD_none,show (1:Int) > 0 by decide,if_true]
   by_cases h:i<0
   ·simp only [h,if_true]<;>omega
   ·simp only [h,if_false]<;>omega
 ·cases hi with
  | none=>simp [sliceBounds,HT.sIx]
  | some i=>
   simp only [sliceBounds,HT.sIx,Option.getD_none,show (1:Int) > 0 by decide,if_true]
   by_cases h:i<0
   ·simp only [h,if_true]<;>omega
   ·simp only [h,if_false]<;>omega
theorem slicePick_cut(its:List Value)(lo hi:Option Int):slicePick its.toArray lo hi none=((its.drop (HT.sIx its.length 0 lo)).take (HT.sIx its.length its.length hi - HT.sIx its.length 0 lo)).toArray:=by
 obtain⟨h1,h2,h3⟩:=slice_bounds lo hi its.toArray.size
 unfold slicePick
 rw [h1,h2,h3]
 simp only [sliceRange_one,pick_run,List.size_toArray]<;>rfl
def rSlL(K:PySem.W.Frag):V->Option Int->Option Int->Hp->VK->Prop:=fun x lo hi H Q=>∃ a xs,x=.ref a/\SqL K H a xs/\∀ p,H p=none->Q (.ref p) (upd H p (.lst (cutV xs lo hi)))
theorem sl_list:SlR X (rSlL X.K):=by
 intro pins s σ H x v vl vu lo hi sl Q I rx hs pl pu h
 obtain⟨a,xs,rfl,hx,q⟩:=h
 cases rx
 obtain⟨its,r,ht,hz⟩:=I.list hx
 have hlen:=r.length
 refine⟨"list",_,slot_list_getitem.lookup,ht.isList.typeIs,?_⟩
 refine wpAny_getItem_list_slice ht.isList hs pl pu .none (by simp) ?_ (by rw [List.size_toArray]<;>omega)
 rw [slicePick_cut,<-hlen]
 refine⟨.ref s.heap.objs.size,_,I.laid (t':=s.toks) (o:=.lst (cutV xs lo hi)) (fun b ob q=>Heap.get?_push_of_some _ q) (Nat.le_refl _) ?_,rfl,q _ (I.hok.fresh (Nat.le_refl _))⟩
 exact⟨Nat.le_trans (cutV_length xs lo hi) hz,_,0,(r.drop (HT.sIx xs.length 0 lo)).take (HT.sIx xs.length xs.length hi - HT.sIx xs.length 0 lo),Heap.get?_push_size _ rfl⟩
theorem call_len_seq:CallR X (.builtin "len") (fun xs H Q=>∃ p ys,xs=[.ref p]/\(SqL X.K H p ys\/SqT X.K H p ys)/\Q (.int ys.length) H):=by
 intro pins s σ H xs us Q I r h
 obtain⟨p,ys,rfl,hq,q⟩:=h
 obtain⟨u,rfl,rx⟩:=vals1 r
 cases rx
 have hn:=line63
 rcases hq with hq | hq
 ·obtain⟨its,r',pl,hz⟩:=I.list hq
  have hlen:=r'.length
  exact Calls.call_len_list pl.isList (by simp only [List.size_toArray]<;>omega) ⟨.int ys.length,H,I.tok _,⟨s.toks+1,by rw [List.size_toArray,hlen]⟩,q⟩
 ·obtain⟨its,r',pl,hz⟩:=I.tuple hq
  have hlen:=r'.length
  exact len_tuple pl (by simp only [List.size_toArray]<;>omega) ⟨.int ys.length,H,I.tok _,⟨s.toks+1,by rw [List.size_toArray,hlen]⟩,q⟩
theorem call_list_of:CallR X (.type "list") (fun xs H Q=>∃ p ys,xs=[.ref p]/\(SqL X.K H p ys\/SqT X.K H p ys)/\∀ l,H l=none->Q (.ref l) (upd H l (.lst ys))):=by
 intro pins s σ H xs us Q I r h
 obtain⟨p,ys,rfl,hq,q⟩:=h
 obtain⟨u,rfl,rx⟩:=vals1 r
 cases rx
 have fin:∀ (its:List Value),Vals ys its->ys.length<=sizeLine->∀ (h':Heap) (c':Nat),(∀ b o',s.heap.get? b=some o'->h'.get? b=some o') →
   h'.get? s.heap.objs.size=some { cls:=.type "list",dict:=none,data:=.seq its.toArray c',slots:=#[] }->EP X pins σ Q (.ref s.heap.objs.size) { s with heap:=h' }:=fun its r' hz h' c' kp e=>
  ⟨.ref s.heap.objs.size,_,I.laid (t':=s.toks) kp (Nat.le_refl _) (show ObjOk X.prog X.w _ h' _ (.lst ys) from ⟨hz,its,c',r',e⟩),rfl,q _ (I.hok.fresh (Nat.le_refl _))⟩
 rcases hq with hq | hq
 ·obtain⟨its,r',pl,hz⟩:=I.list hq
  have hlen:=r'.length
  obtain⟨o,ho,hc,n,hd⟩:=pl.isList
  exact call_list_seq p (.inl rfl) ho hc hd (fun h' c' kp e=>fin its r' hz h' c' kp e) (by simp only [List.size_toArray]<;>omega)
 ·obtain⟨its,r',pl,hz⟩:=I.tuple hq
  have hlen:=r'.length
  obtain⟨o,ho,hc,n,hd⟩:=pl
  exact call_list_seq p (.inr rfl) ho hc hd (fun h' c' kp e=>fin its r' hz h' c' kp e) (by simp only [List.size_toArray]<;>omega)
theorem call_tuple_of:CallR X (.type "tuple") (fun xs H Q=>∃ p ys,xs=[.ref p]/\((SqL X.K H p ys/\∀ l,H l=none->Q (.ref l) (upd H l (.tup ys)))\/(SqT X.K H p ys/\Q (.ref p) H))):=by
 intro pins s σ H xs us Q I r h
 obtain⟨p,ys,rfl,h⟩:=h
 obtain⟨u,rfl,rx⟩:=vals1 r
 cases rx
 rcases h with ⟨hq,q⟩ | ⟨hq,q⟩
 ·obtain⟨its,r',pl,hz⟩:=I.list hq
  have hlen:=r'.length
  refine call_tuple_list pl.isList (fun h' kp=>?_) (by simp only [List.size_toArray]<;>omega)
  have I1:Inv X pins σ H { s with heap:=h' }:=I.kept (t':=s.toks) kp
  have I2:Inv X pins σ (upd H h'.objs.size (.tup ys)) { s with heap:=h'.push { cls:=.type "tuple",data:=.seq its.toArray } }:=
   I1.laid (t':=s.toks) (fun b o e=>Heap.get?_push_of_some _ e) (Nat.le_refl _) (show ObjOk X.prog X.w _ _ _ (.tup ys) from ⟨hz,its,r',IsTup.new _ _⟩)
  exact⟨.ref h'.objs.size,_,I2,rfl,q _ (I1.hok.fresh (Nat.le_refl _))⟩
 ·obtain⟨its,r',pl,hz⟩:=I.tuple hq
  exact call_tuple_same pl ⟨.ref p,H,I,rfl,q⟩
def tyV (K : PySem.W.Frag) (T : String) (x : V) (H : Hp) : Prop := match x with
 | .str _ => T = "str"
 | .int _ => T = "int"
 | .ref p => (T = "list" ∧ ∃ xs, SqL K H p xs) ∨ (T = "tuple" ∧ ∃ o, K.lookup p = some o ∧ o.cls = .type "tuple" ∧ o.dict = none) ∨
   (T = "dict" ∧ ((∃ kvs, H p = some (.dK kvs)) ∨ ∃ kvs, H p = some (.dT kvs))) ∨ (T = "set" ∧ ∃ S n, H p = some (.set S n))
 | _ => False
theorem tyV_is{pins:List (Addr×Obj)}{σ:St}{H:Hp}{s:Shared}{T:String}{x:V}{v:Value}(I:Inv X pins σ H s)(r:RelV x v)(ty:tyV X.K T x H):
  s.TypeIs v T/\∀ a,v=.ref a->∃ ob,s.heap.get? a=some ob/\ob.dict=none:=by
 cases x with
 | str z=>
  obtain⟨t,rfl⟩:=r
  cases (show T="str" from ty)
  exact⟨typeIs_str s z t,fun _ e=>nomatch e⟩
 | int i=>
  obtain⟨t,rfl⟩:=r
  cases (show T="int" from ty)
  exact⟨typeIs_int s i t,fun _ e=>nomatch e⟩
 | ref p=>
  cases r
  rcases ty with ⟨rfl,xs,hq⟩ | ⟨rfl,o,hk,hc,hd⟩ | ⟨rfl,hk⟩ | ⟨rfl,S,n,hk⟩
  ·obtain⟨its,_,pl,_⟩:=I.list hq
   refine⟨pl.isList.typeIs,fun a e=>?_⟩
   cases e
   obtain⟨o,n,e,c,hd,_⟩:=pl
   exact⟨o,e,hd⟩
  ·refine⟨⟨o,I.kIn p o hk,hc⟩,fun a e=>?_⟩
   cases e
   exact⟨o,I.kIn _ o hk,hd⟩
  ·have z:∃ o,s.heap.get? p=some o/\o.ExactDict:=by
    rcases hk with ⟨kvs,hk⟩ | ⟨kvs,hk⟩
    ·obtain⟨_,_,_,_,o,_,_,e,ex,_⟩:=I.hok p _ hk
     exact⟨o,e,ex⟩
    ·obtain⟨_,_,_,_,o,_,_,e,ex,_⟩:=I.hok p _ hk
     exact⟨o,e,ex⟩
   obtain⟨o,e,ex⟩:=z
   refine⟨⟨o,e,ex.1⟩,fun a e2=>?_⟩
   cases e2
   exact⟨o,e,ex.2.1⟩
  ·obtain⟨o,_,_,_,e,ex,_⟩:=I.hok p _ hk
   refine⟨⟨o,e,ex.1⟩,fun a e2=>?_⟩
   cases e2
   exact⟨o,e,ex.2.1⟩
 | _=>exact False.elim ty
def tBM0(K:PySem.W.Frag)(T:String)(r:V->List V->Hp->VK->Prop)(to:TE):TE:=fun σ H Q=>to σ H fun x H1=>tyV K T x H1/\r x [] H1 Q
def tBM(K:PySem.W.Frag)(T:String)(r:V->List V->Hp->VK->Prop)(to:TE)(t:TA):TE:=fun σ H Q=>to σ H fun x H1=>tyV K T x H1/\t σ H1 fun xs H2=>r x xs H2 Q
variable {o e:Expr} {es:List Expr} {to:TE} {t:TA} {name:Str} {apos cpos:Pos} {T id:String} {r:V->List V->Hp->VK->Prop}
theorem pe_bm0 (pa:PlainAttrs T) (slot:Slot T name id) (hty:typeOf (.builtin id)=pure (.type "method_descriptor")) (hm:MtR X id r) (ho:PE X o to)
  (hbase:attributeBase o name X.env (eval o X.env)=eval o X.env:=by rfl) (hline:(apos.endLine==cpos.line)=true:=by rfl):PE X (.Call (.Attribute o name apos) [] [] cpos) (tBM0 X.K T r to):=by
 intro pins s σ H Q I h
 refine wpAny_Call_method0_late hbase hline (thn (ho pins s σ H _ I h) fun v s1 ⟨x,H1,I1,r1,ty,q1⟩=>?_)
 obtain⟨h1,h2⟩:=tyV_is I1 r1 ty
 exact⟨T,id,pa,slot,hty,h1,h2,Calls.callWith_builtin rfl (PySem.evalArgs_none (hm pins s1 σ H1 x [] v [] Q I1 r1 .nil q1))⟩
theorem pe_bm (pa:PlainAttrs T) (slot:Slot T name id) (hty:typeOf (.builtin id)=pure (.type "method_descriptor")) (hm:MtR X id r) (ho:PE X o to) (ha:PA X (e::es) t)
  (hbase:attributeBase o name X.env (eval o X.env)=eval o X.env:=by rfl)
  (hfew:((backTo cpos (starEach (e::es) X.env)).all (fun x=>!x.1)&&(backToKw cpos (keywordEach [] X.env)).all (fun x=>x.1.isSome)
   && decide ((e::es).length+([]:List Keyword).length+(if ([]:List Keyword).isEmpty then 0 else 1)<30))=true:=by rfl)
  (hline:(apos.endLine==cpos.line)=true:=by rfl) (hs:starEach (e::es) X.env=(false,eval e X.env)::starEach es X.env:=by rfl) (hplain:(backTo cpos (starEach es X.env)).any (·.1)=false:=by rfl) :
  PE X (.Call (.Attribute o name apos) (e::es) [] cpos) (tBM X.K T r to t):=by
 intro pins s σ H Q I h
 refine wpAny_Call_method_late hbase hfew hline rfl (thn (ho pins s σ H _ I h) fun v s1 ⟨x,H1,I1,r1,ty,q1⟩=>?_)
 obtain⟨h1,h2⟩:=tyV_is I1 r1 ty
 refine⟨T,id,pa,slot,hty,h1,h2,?_⟩
 have hA:=ha cpos pins s1 σ H1 _ I1 q1
 rw [hs] at hA ⊢
 refine Calls.callWith_builtin (by show (false || (backTo cpos (starEach es X.env)).any (·.1))=false;rw [hplain]<;>rfl) (Calls.evalArgs_plain ?_)
 exact thn hA fun us s2 ⟨vs,H2,I2,r2,q2⟩=>hm pins s2 σ H2 x vs v us Q I2 r1 r2 q2
/- xs.append(e),list.index on a module's tuple .. are MtR facts of 06m -/
end
end L2
namespace L2
open PySem PySem.Spec PyProof.Rows
def MtM(X:Cx)(id:String)(r:V->List V->Hp->VK->Prop):Prop:=
 ∀ (pins:List (Addr×Obj)) (s:Shared) (σ:St) (H:Hp) (x:V) (xs:List V) (v:Value) (us:List Value) (Q:VK),Inv X pins σ H s->RelV x v->Vals xs us->r x xs H Q →
  wpAny (model X.prog X.w) X.A (call (.builtin id) (v::us)) (EP X pins σ Q) X.xe s
theorem Vals.one:∀ {x:V} {us:List Value},Vals [x] us->∃ u,us=[u]/\RelV x u
 | _,_,.cons r .nil=>⟨_,rfl,r⟩
theorem Vals.two:∀ {x y:V} {us:List Value},Vals [x,y] us->∃ u v,us=[u,v]/\RelV x u/\RelV y v
 | _,_,_,.cons r (.cons q .nil)=>⟨_,_,rfl,r,q⟩
theorem Vals.zero:∀ {us:List Value},Vals [] us->us=[]
 | _,.nil=>rfl
theorem Vals.dropLast{xs:List V}{us:List Value}(h:Vals xs us):Vals xs.dropLast us.dropLast:=by
 induction h with
 | nil=>exact .nil
 | cons r t ih=>
  cases t with
  | nil=>exact .nil
  | cons q t'=>exact .cons r ih
theorem Vals.rep{xs:List V}{us:List Value}(h:Vals xs us):∀ k:Nat,Vals (List.replicate k xs).flatten (List.replicate k us).flatten
 | 0=>.nil
 | k+1=>by
  rw [List.replicate_succ,List.replicate_succ,List.flatten_cons,List.flatten_cons]
  exact Vals.append h (Vals.rep h k)
theorem erase_last{α:Type}(l:List α):l.eraseIdx (l.length - 1)=l.dropLast:=by
 induction l with
 | nil=>rfl
 | cons a r ih=>
  cases r with
  | nil=>rfl
  | cons b r=>
   have e:(a::b::r).length - 1=((b::r).length - 1)+1:=by
    have h1:(a::b::r).length=r.length+2:=rfl
    have h2:(b::r).length=r.length+1:=rfl
    omega
   rw [e,List.eraseIdx_cons_succ,ih]
   all_goals rfl
theorem foldl_rep(its:List Value):∀ (k:Nat) (acc:List Value),
  List.foldl (fun x1 x2=>x1++x2) acc.toArray (List.replicate k its.toArray)=(acc++(List.replicate k its).flatten).toArray
 | 0,acc=>by simp
 | k+1,acc=>by
  have e:acc.toArray++its.toArray=(acc++its).toArray:=by simp
  have e2:(acc++its)++(List.replicate k its).flatten=acc++(List.replicate (k+1) its).flatten:=by
   rw [List.replicate_succ,List.flatten_cons,List.append_assoc]
  rw [<-e2,<-foldl_rep its k (acc++its),<-e,List.replicate_succ,List.foldl_cons]
section
variable {X:Cx} {pins:List (Addr×Obj)} {σ:St} {H:Hp} {s:Shared} {l b:Addr} {xs ys zs:List V}
theorem Inv.lset{its its':List Value}{n:Nat}{f:Array Value->Array Value}{t':Nat}(I:Inv X pins σ H s)(hH:H l=some (.lst xs))
  (e:s.heap.get? l=some { cls:=.type "list",data:=.seq its.toArray n }) (hf:f its.toArray=its'.toArray) (hv:Vals ys its') (hz:ys.length<=sizeLine) :
  Inv X pins σ (upd H l (.lst ys)) { s with heap:=s.heap.update l (Obj.mapSeq f),toks:=t' }:=by
 have q:=PySem.IsL.update e f
 rw [hf] at q
 refine I.write (x:=l) (e:=l) (by rw [hH];exact trivial) (.inl rfl) (fun b' u hb hu=>(Heap.get?_update_other s.heap (Obj.mapSeq f) (Ne.symm hb)).trans hu) ⟨_,q⟩ ?_
 exact⟨hz,its',_,hv,q⟩
theorem Inv.lnew{its:List Value}{t':Nat}(I:Inv X pins σ H s)(hv:Vals ys its)(hz:ys.length<=sizeLine):
  Inv X pins σ (upd H s.heap.objs.size (.lst ys)) { s with heap:=s.heap.push { cls:=.type "list",data:=.seq its.toArray },toks:=t' }:=
 I.laid (fun _ _ q=>Heap.get?_push_of_some _ q) (Nat.le_refl _) ⟨hz,its,0,hv,Heap.get?_push_size _ rfl⟩
theorem Inv.fresh(I:Inv X pins σ H s):H s.heap.objs.size=none:=I.hok.fresh (Nat.le_refl _)
theorem Inv.lstM (I:Inv X pins σ H s) (hH:H l=some (.lst xs)):xs.length<=sizeLine/\∃ (its:List Value) (n:Nat),Vals xs its/\xs.length=its.length/\s.heap.get? l=some { cls:=.type "list",data:=.seq its.toArray n }:=by
 obtain⟨z,its,n,r,e⟩:=I.hok l _ hH
 exact⟨z,its,n,r,r.length,e⟩
theorem notLongL{n:Nat}(h:n<=sizeLine):Builtin.List.listTooLong n=false:=by
 unfold Builtin.List.listTooLong
 exact decide_eq_false (by omega)
end
section
variable {X:Cx}
def rAppend:V->List V->Hp->VK->Prop:=fun x vs H Q=>∃ l xs y,x=.ref l/\vs=[y]/\H l=some (.lst xs)/\xs.length<sizeLine/\Q .non (upd H l (.lst (xs++[y])))
theorem mt_append:MtM X "list.append" rAppend:=by
 intro pins s σ H x vs v us Q I rx rv h
 obtain⟨l,xs,y,rfl,rfl,hH,hz,q⟩:=h
 cases rx
 obtain⟨u,rfl,ru⟩:=rv.one
 obtain⟨z,its,n,r,hl,e⟩:=I.lstM hH
 refine call_meets F.slot_list_append ⟨_,e,rfl⟩ F.entry_list_append (F.args_list_append_2 _ _) (PySem.list_append l its.toArray n u (by rw [List.size_toArray];omega)) ⟨e,?_⟩
 refine⟨.non,_,I.lset (its':=its++[u]) hH e (by simp) (r.append (.cons ru .nil)) ?_,rfl,q⟩
 rw [List.length_append,List.length_singleton]
 omega
def rExtend:V->List V->Hp->VK->Prop:=fun x vs H Q=>∃ l b xs zs,x=.ref l/\vs=[.ref b]/\H l=some (.lst xs)/\H b=some (.lst zs)/\xs.length+zs.length<=sizeLine/\Q .non (upd H l (.lst (xs++zs)))
theorem mt_extend:MtM X "list.extend" rExtend:=by
 intro pins s σ H x vs v us Q I rx rv h
 obtain⟨l,b,xs,zs,rfl,rfl,hH,hB,hz,q⟩:=h
 cases rx
 obtain⟨u,rfl,ru⟩:=rv.one
 cases ru
 obtain⟨z,its,n,r,hl,e⟩:=I.lstM hH
 obtain⟨z2,its2,n2,r2,hl2,e2⟩:=I.lstM hB
 have hsz:its.toArray.size+its2.toArray.size<=sizeLine:=by rw [List.size_toArray,List.size_toArray];omega
 have hlong:¬ (!its.toArray.isEmpty&&Builtin.List.listTooLong (its.toArray.size+its2.toArray.size))=true:=by
  rw [notLongL hsz,Bool.and_false]
  exact Bool.false_ne_true
 refine call_meets F.slot_list_extend ⟨_,e,rfl⟩ F.entry_list_extend (F.args_list_extend_2 _ _)
  (AutoSeq1.list_extend_list_list_0 l its.toArray n b its2.toArray n2 hlong (by rw [List.size_toArray];omega) (by omega)) ⟨e,e2,?_⟩
 refine⟨.non,_,I.lset (its':=its++its2) hH e (by simp) (r.append r2) ?_,rfl,q⟩
 rw [List.length_append]
 omega
def rPop:V->List V->Hp->VK->Prop:=fun x vs H Q=>∃ l xs y,x=.ref l/\vs=[]/\H l=some (.lst xs)/\xs[xs.length - 1]? = some y/\Q y (upd H l (.lst xs.dropLast))
theorem mt_pop:MtM X "list.pop" rPop:=by
 intro pins s σ H x vs v us Q I rx rv h
 obtain⟨l,xs,y,rfl,rfl,hH,hy,q⟩:=h
 cases rx
 have hus:=rv.zero
 subst hus
 obtain⟨z,its,n,r,hl,e⟩:=I.lstM hH
 obtain⟨u,hu,ru⟩:=r.get hy
 have hy':its.toArray[its.toArray.size - 1]? = some u:=by
  show its.toArray[its.length - 1]? = some u
  rw [<-Array.getElem?_toList,<-hl]
  exact hu
 refine call_meets F.slot_list_pop ⟨_,e,rfl⟩ F.entry_list_pop (F.args_list_pop_1 _) (MeetsSeq.list_pop_last l its.toArray n u hy' (by rw [List.size_toArray];omega)) ⟨e,?_⟩
 refine⟨y,_,I.lset (its':=its.dropLast) hH e ?_ r.dropLast ?_,ru,q⟩
 ·show its.toArray.eraseIdxIfInBounds (its.toArray.size - 1)=its.dropLast.toArray
  rw [List.size_toArray,List.eraseIdxIfInBounds_toArray,erase_last]
 ·rw [List.length_dropLast]
  omega
def rCat:R2:=fun x y H Q=>∃ l b xs zs,x=.ref l/\y=.ref b/\H l=some (.lst xs)/\H b=some (.lst zs)/\xs.length+zs.length<=sizeLine/\∀ p,H p=none->Q (.ref p) (upd H p (.lst (xs++zs)))
theorem op_cat:OpR X (binaryOp .Add) rCat:=by
 intro pins s σ H x y v u Q I rx ry h
 obtain⟨l,b,xs,zs,rfl,rfl,hH,hB,hz,q⟩:=h
 cases rx
 cases ry
 obtain⟨z,its,n,r,hl,e⟩:=I.lstM hH
 obtain⟨z2,its2,n2,r2,hl2,e2⟩:=I.lstM hB
 refine PySem.P.add_list e e2 ?_ (by rw [List.size_toArray,List.size_toArray];omega)
 have ea:its.toArray++its2.toArray=(its++its2).toArray:=by simp
 rw [ea]
 exact⟨.ref _,_,I.lnew (t':=s.toks) (r.append r2) (by rw [List.length_append];omega),rfl,q _ I.fresh⟩
def rRep:R2:=fun x y H Q=>∃ l k xs,x=.ref l/\y=.int k/\H l=some (.lst xs)/\-(2 ^ 63)<=k/\k<2 ^ 63/\xs.length * k.toNat<=sizeLine ∧
 ∀ p,H p=none->Q (.ref p) (upd H p (.lst (List.replicate k.toNat xs).flatten))
theorem len_rep{α:Type}(xs:List α)(k:Nat):(List.replicate k xs).flatten.length=k * xs.length:=by
 induction k with
 | zero=>simp
 | succ k ih=>rw [List.replicate_succ,List.flatten_cons,List.length_append,ih,Nat.succ_mul,Nat.add_comm]
theorem op_rep:OpR X (binaryOp .Mult) rRep:=by
 intro pins s σ H x y v u Q I rx ry h
 obtain⟨l,k,xs,rfl,rfl,hH,h1,h2,hz,q⟩:=h
 cases rx
 obtain⟨t,rfl⟩:=ry
 obtain⟨z,its,n,r,hl,e⟩:=I.lstM hH
 have hlen:its.toArray.size * k.toNat<=sizeLine:=by rw [List.size_toArray,<-hl];exact hz
 have hcap:¬ its.toArray.size * k.toNat > (2 ^ 63 - 1) / 8:=by
  have:(sizeLine:Nat)<=(2 ^ 63 - 1) / 8:=by decide
  omega
 have hfit:¬ (!Builtin.List.listFitsIndex k)=true:=by
  rw [fitsIndex_both h1 h2]
  exact Bool.false_ne_true
 have hlong:¬ Builtin.List.listTooLong (its.toArray.size * k.toNat)=true:=by
  rw [notLongL hlen]
  exact Bool.false_ne_true
 have hnew:List.foldl (fun x1 x2=>x1++x2) #[] (List.replicate (if its.toArray.isEmpty=true then 0 else k.toNat) its.toArray)=(List.replicate k.toNat its).flatten.toArray:=by
  have f0:∀ m:Nat,List.foldl (fun x1 x2=>x1++x2) #[] (List.replicate m its.toArray)=(List.replicate m its).flatten.toArray:=fun m=>by
   have:=foldl_rep its m []
   rw [List.nil_append] at this
   exact this
  rw [f0]
  cases its with
  | nil=>simp
  | cons a r'=>rw [if_neg (by simp)]
 refine wpAny_binaryOp_repeat_ref (T:="list") (U:="int") (by decide) ⟨_,e,rfl⟩ (fun s'=>typeIs_int s' k t) noFill_list_mul F.fills_int_mul F.slot_int_rmul repeat_list F.slot_int_index.lookup
  (call_meets F.slot_int_rmul (typeIs_int s k t) F.entry_int_rmul (F.args_int_rmul_2 _ _) (int___rmul___int_list k t l its.toArray n)
   ⟨e,rfl,⟨_,e,rfl⟩,call_meets F.slot_list_mul ⟨_,e,rfl⟩ F.entry_list_mul (F.args_list_mul_2 _ _) (AutoListH.list___mul___list_int_3 l its.toArray n k t hfit hcap hlong) ⟨e,?_⟩⟩)
 rw [hnew]
 exact⟨.ref _,_,I.lnew (t':=s.toks) (r.rep k.toNat) (by rw [len_rep,Nat.mul_comm];exact hz),rfl,q _ I.fresh⟩
end
section
variable {prog:Program} {w:World} {A:Around} {E:Value->Shared->Prop} {s:Shared}
set_option maxRecDepth 100000 in
end
end L2
namespace Att
open PySem PySem.W PySem.Calls PyProof.Rows
theorem ints_of_wellAll{P:Params}{h:Heap}:∀ (ns:List Int) (vs:List Value),WellAll P h vs (ns.map WData.int)->IntsAre vs ns:=by
 intro ns
 induction ns with
 | nil=>
  intro vs w
  rw [List.map_nil] at w
  cases w
  exact .nil
 | cons n ns ih=>
  intro vs w
  rw [List.map_cons] at w
  cases w with
  | cons a b=>
   cases a
   exact .cons _ _ (ih _ b)
theorem script_of{l:OpenLaw}{n:Nat}(hn:l.most=some n){P:Params}{h:Heap}{args:List WData}{vals:List Value}
  (hpre:l.row.toRowW.claim.pre args=true) (hwl:WellAll P h vals args) :
  ∃ a vs ns,vals=[Value.ref a]/\args=[WData.list (ns.map WData.int)]/\h.get? a=some { cls:=.type "list",data:=.seq vs.toArray }/\IntsAre vs ns/\ns.length<=n:=by
 have hsh:WShape.hasAll [] args [.list .int]=true:=(pre_splitW hpre).1
 have hc:l.pre.holds [] { args:=args }=true:=(pre_splitW hpre).2
 obtain⟨d,r,rfl,h1,h2⟩:=hasAllW_cons hsh
 obtain rfl:=hasAllW_nil h2
 obtain⟨xs,rfl,h3⟩:=hasW_list h1
 obtain⟨ns,rfl⟩:=items_int h3
 have hlen:ns.length<=n:=by
  unfold OpenLaw.pre at hc
  have h4:(WTm.not (.lt (.lit (.int (n:Int))) (.len (.arg 0)))).holds [] { args:=[.list (ns.map .int)] }=true:=by
   have h4:=(holds_andW hc).1
   rw [hn] at h4
   exact h4
  have h5:=condW_of h4 (w_not (w_lt w_lit (w_len_list (w_arg rfl))))
  rw [List.length_map] at h5
  refine Nat.le_of_not_lt fun q=>?_
  have q':(n:Int)<((ns.length:Nat):Int):=by omega
  first
   | (rw [decide_eq_true q'] at h5;exact absurd h5 (by decide))
   | (simp at h5;omega)
 cases hwl with
 | cons w1 w2=>
  cases w2
  cases w1 with
  | list ho hall=>exact⟨_,_,ns,rfl,rfl,ho,ints_of_wellAll ns _ hall,hlen⟩
theorem post_true(l:OpenLaw)(args:List WData):l.row.toRowW.claim.post args (.bool true) args=true:=
 postW_of (r:=l.row.toRowW) (X:=(true==true))
  (show WShape.has [] (.bool true) .bool=true by first | rfl | decide | simp [WShape.has,WShape.arms,WShape.armsAll])
  (show (WTm.eq .res (.lit (.bool true))).value [] { args:=args,res:=some (.bool true),after:=args }=some (.bool (true==true)) from w_eq_bool (w_res rfl) w_lit) rfl
theorem attach_call{l:OpenLaw}{n:Nat}{q:Program}{loose:List Str}{XP:(Str->Option Value)->Heap->Prop}{YP:World->Heap->Prop}{d:DefRec}
  (hn:l.most=some n) (hdf:d.params.defaults=[])
  (call:∀ (w:World) (s₀ s₁:Shared) (mg mb:Str->Option Value) (fa:Addr) (o:Obj) (pm cd doc:Value) (a:Addr) (vs:List Value) (ns:List Int),
   Ground q loose [] XP w s₀ mg mb s₁.heap->YP w s₁.heap →
   s₁.heap.get? fa=some o->o.data=.func (docDef d.name d.params d.body d.scope pm cd doc)->s₁.heap.CodeRec cd d.name->mg d.name=some (.ref fa) →
   s₁.heap.get? a=some { cls:=.type "list",data:=.seq vs.toArray }->IntsAre vs ns->ns.length<=n->s₁.gens=#[] →
   codeAny (model l.prog w) callerA (.call (.ref fa) ⟨[.ref a],[]⟩) (fun r s'=>r=.ok (.ret (.bool true))/\OldK s₁.heap s'.heap/\s'.os=s₁.os/\AllBare s'.gens) s₁) :
  WalkO q loose XP YP l.row.toRowW d [] (fun f vs=>PySem.call f vs):=by
 intro w s₀ s₁ mg mb G Y fa o pm cd doc dV kV ho hd hcd hD hmg hg args vals as hpre hlay hrd hwl hlo
 obtain rfl:dV=.none:=Dflts.none hD hdf
 obtain rfl:kV=.none:=Dflts.noKw hD
 obtain⟨a,vs,ns,rfl,rfl,hobj,hints,hlen⟩:=script_of hn hpre hwl
 refine enter_call (codeAny_mono (call w s₀ s₁ mg mb fa o pm cd doc a vs ns G Y ho (fd_plain hd) hcd hmg hobj hints hlen hg) fun r s' hq=>?_)
 obtain⟨rfl,h2,h3,h4⟩:=hq
 exact⟨.inl ⟨.bool true,.bool true,[],rfl,fun _=>rfl,.bool true,post_true l _,fun _=>⟨List.Pairwise.nil,fun _ hm=>(nomatch hm)⟩⟩,h2,h3,h4⟩
section
variable {prog:Program} {w:World} {A:Around} {E:Value->Shared->Prop} {s:Shared} {K:Frag}
end
end Att
namespace L2
open PySem PySem.Spec PyProof.Rows
theorem vals_ints:∀ {vs:List Value} {ns:List Int},IntsAre vs ns->Vals (ns.map V.int) vs
 | _,_,.nil=>.nil
 | _,_,.cons n t h=>.cons ⟨t,rfl⟩ (vals_ints h)
def Only(H:Hp):Prop:=∀ b,H b=none\/∃ o xs,H b=some (.frz o (.lst xs))
theorem law_call{P:Program}{w:World}{K:PySem.W.Frag}{mg mb:Str->Option Value}{CX:CXT}{k:Nat}{fa a:Addr}{fd:FuncData}{x:Str}{sp:Sp}{s₁:Shared}{vs:List Value}{ns:List Int}
  (KX:K.In s₁.heap) (hns:s₁.heap.Ns mainGlobals mg) (hb:s₁.heap.Ns builtinsNs mb) (hbb:∀ x:Str,x≠"__name__"->mb x=bootBuiltins x) (hlim:s₁.heap.NoLimit) (hg:s₁.gens=#[])
  (ha:s₁.heap.get? a=some { cls:=.type "list",data:=.seq vs.toArray }) (hi:IntsAre vs ns) (hl:ns.length<=sizeLine) (hr:Room k callerA)
  (F:∀ base:Heap,K.In base->base.Ns mainGlobals mg->FnOk P w K mg base CX k fa fd [x] sp) (hbind:∀ (s:Shared) (u:Value),BindsTo s fd ⟨[u],[]⟩ [(x,u)])
  (hsp:∀ H:Hp,Only H->SqL K H a (ns.map V.int)->sp [.ref a] H (fun v _=>v=.bl true) fun _ _ _=>False)
  (hCX:∀ H e s',CX [] H s₁ (fun _ _ _=>False) e s'->False) :
  codeAny (model P w) callerA (.call (.ref fa) ⟨[.ref a],[]⟩) (fun r s'=>r=.ok (.ret (.bool true))/\OldK s₁.heap s'.heap/\s'.os=s₁.os/\AllBare s'.gens) s₁:=by
 have rv:=vals_ints hi
 have lenV:=hi.length
 have core:∀ H:Hp,Only H->SqL K H a (ns.map V.int)->HOk P w H s₁.heap->(∀ b,H b≠none->b=a)->(H a≠none->K.lookup a=none) →
   codeAny (model P w) callerA (.call (.ref fa) ⟨[.ref a],[]⟩) (fun r s'=>r=.ok (.ret (.bool true))/\OldK s₁.heap s'.heap/\s'.os=s₁.os/\AllBare s'.gens) s₁:=by
  intro H hO hS hok hA hK
  have base_of:∀ {b:Addr} {o:Obj},s₁.heap.get? b=some o->H b=none->(hidT s₁.heap H).get? b=some o:=fun e n=>hidT_get e n
  have noA:∀ {b:Addr} {o:Obj} {es:Array DictEntry} {ep:Nat},s₁.heap.get? b=some o->o.data=.dict es ep->H b=none:=fun {b o es ep} e d=>by
   cases q:H b with
   | none=>rfl
   | some u=>
    have e':b=a:=hA b (by rw [q];simp)
    subst e'
    rw [ha] at e;cases e
    have d':Data.seq vs.toArray _=Data.dict es ep:=d
    cases d'
  have nsK:∀ {b:Addr} {m:Str->Option Value},s₁.heap.Ns b m->(hidT s₁.heap H).Ns b m:=fun {b m} ⟨o,es,ep,e,d,r⟩=>⟨o,es,ep,base_of e (noA e d),d,r⟩
  have hKb:K.In (hidT s₁.heap H):=fun b o e=>base_of (KX b o e) (by
   cases q:H b with
   | none=>rfl
   | some u=>
    have e':b=a:=hA b (by rw [q];simp)
    subst e'
    rw [hK (by rw [q];simp)] at e;cases e)
  have hM:Mod K mg (hidT s₁.heap H):=⟨hKb,nsK hns,⟨mb,nsK hb,hbb⟩,let ⟨mc,h1,h2⟩:=hlim;⟨mc,nsK h1,h2⟩⟩
  have e0:Env0 P w K mg (hidT s₁.heap H) callerA [] s₁ H:=⟨rfl,hM,fun b o e=>of_hidT e,Nat.le_of_eq (hidT_size _ _),trivial,fun b hb=>absurd (show b∈([]:List Addr) from hb) (by simp),hok,.of_eq hg⟩
  refine codeAny_mono ((F _ hKb (nsK hns)).run callerA [] s₁ H ⟨[.ref a],[]⟩ [.ref a] [.ref a] _ _ hr e0 (hbind s₁ (.ref a)) (.cons rfl .nil) (hsp H hO hS)) fun r s' h=>?_
  cases r with
  | error e=>exact (hCX H e s' h).elim
  | ok fl=>
   cases fl with
   | next=>exact False.elim h
   | brk=>exact False.elim h
   | cont=>exact False.elim h
   | ret u=>
    obtain⟨v,H',os,bare,un,hok',r',q⟩:=h
    have q':v=.bl true:=q
    subst q'
    obtain rfl:u=Value.bool true:=r'
    refine⟨rfl,OldK.of_keep fun b o e=>?_,os,bare⟩
    cases q:H b with
    | none=>exact un.keep b o e q (by intro z;exact absurd (show b∈([]:List Addr) from z) (by simp)) (by simp)
    | some u=>
     rcases hO b with z | ⟨ob,xs,z⟩
     ·rw [q] at z;cases z
     ·have z2:=un.frzs b ob _ z
      obtain⟨e1,_⟩:=hok b _ z
      obtain⟨e2,_⟩:=hok' b _ z2
      rw [e] at e1;cases e1
      exact e2
 cases hk:K.lookup a with
 | some o=>
  have e:=KX a o hk
  rw [ha] at e
  cases e
  refine core (fun _=>none) (fun _=>.inl rfl) (.inr ⟨_,vs.toArray,_,hk,rfl,rfl,rfl,by rw [List.size_toArray,lenV];exact hl,by simpa using rv⟩) (fun b u z=>by have z':(none:Option HO)=some u:=z;cases z') (fun b z=>absurd rfl z) fun z=>absurd rfl z
 | none=>
  refine core (fun b=>if b=a then some (.frz { cls:=.type "list",data:=.seq vs.toArray } (.lst (ns.map V.int))) else none) (fun b=>?_) (.inl (.inr ⟨{ cls:=.type "list",data:=.seq vs.toArray },if_pos rfl⟩)) (fun b u z=>?_) (fun b z=>?_) fun _=>hk
  ·by_cases hb:b=a
   ·exact .inr ⟨_,_,if_pos hb⟩
   ·exact .inl (if_neg hb)
  ·by_cases hb:b=a
   ·have z':=(if_pos hb).symm.trans z
    cases z'
    subst hb
    exact⟨ha,by rw [List.length_map];exact hl,vs,_,rv,ha⟩
   ·have z':=(if_neg hb).symm.trans z
    cases z'
  ·by_cases hb:b=a
   ·exact hb
   ·exact absurd (if_neg hb) z
end L2
namespace L2
open PySem PySem.Spec PyProof.Rows
abbrev KOf {K:PySem.W.Frag} {h:Heap} (_:K.In h):PySem.W.Frag:=K
theorem walk_of{l:PySem.W.OpenLaw}{n k:Nat}{q:Program}{loose:List Str}{XP:(Str->Option Value)->Heap->Prop}{YP:World->Heap->Prop}{d:DefRec}{K:Params->PySem.W.Frag}{CX:World->CXT}{sp:World->Sp}{x:Str}
  (hn:l.most=some n) (hn2:n<=sizeLine) (hdf:d.params.defaults=[]) (hr:Room k callerA)
  (hY:∀ (w:World) (h:Heap),YP w h->(K w.params).In h)
  (F:∀ (w:World) (mg:Str->Option Value) (fa:Addr) (h:Heap),(K w.params).In h->h.Ns mainGlobals mg->mg d.name=some (.ref fa) →
   ∃ fd:FuncData,(∀ (s:Shared) (u:Value),BindsTo s fd ⟨[u],[]⟩ [(x,u)]) ∧
    ∀ base:Heap,(K w.params).In base->base.Ns mainGlobals mg->FnOk l.prog w (K w.params) mg base (CX w) k fa fd [x] (sp w))
  (hsp:∀ (w:World) (H:Hp) (a:Addr) (ns:List Int),ns.length<=n->Only H->SqL (K w.params) H a (ns.map V.int)->sp w [.ref a] H (fun v _=>v=.bl true) fun _ _ _=>False)
  (hCX:∀ (w:World) (H:Hp) (s:Shared) (e:Value) (s':Shared),CX w [] H s (fun _ _ _=>False) e s'->False) :
  PySem.W.WalkO q loose XP YP l.row.toRowW d [] (fun f vs=>PySem.call f vs):=by
 refine Att.attach_call hn hdf fun w s₀ s₁ mg mb fa o pm cd doc a vs ns G Y ho hd hcd hmg hobj hints hlen hg=>?_
 have KX:=hY w _ Y
 obtain⟨fd,hb,hF⟩:=F w mg fa _ KX G.T.g hmg
 exact law_call KX G.T.g G.T.b G.T.builtins G.T.nolimit hg hobj hints (Nat.le_trans hlen hn2) hr hF hb (fun H hO hS=>hsp w H a ns hlen hO hS) fun H e s'=>hCX w H s₁ e s'
end L2
/- THE LAST THEOREM (shape;LID,My.* are yours):
   My.Adr: a structure of the addresses that your layer names (classes,functions);My.Txt K t: a structure (Prop) of the equations over K;
   My.txt_mk:{K} {implicit addresses ..} (e1:nsIn K mainGlobals "law"=some (some (.ref f))) (e2:K.lookup f=some ⟨oc,od,.func (fnOf "law" "law" params body scope dV kV doc pm an cdv ct),sl⟩) (e3:codeIn K cdv "law"=true) ..:∃ t,My.Txt K t
set_option maxRecDepth 100000 in
set_option maxHeartbeats 0 in
theorem PySem.Challenge.cw_LID_holds : PySem.Challenge.rw_LID.Holds := by
 w_on; o_law; k_head; (case hw => w_witness2)
 k_fill
 refine L2.walk_of (l := PySem.Challenge.rw_LID) (n := 63) (k := 40) (x := "script") (CX := fun w => ..) (sp := fun _ => My.sp_law) rfl (by decide) rfl ⟨rfl, by decide, by decide⟩ (fun w h Y => PySem.W.kIn_of Y) ?F ?S ?C
 case F =>
  intro w mg fa h KX G hmg
  have T : ∃ t, My.Txt (L2.KOf KX) t := by
   dsimp only [L2.KOf]                          -- K must stand as «<heap const> w.params» for k_is
   refine' My.txt_mk ?e1 ?e2 ?e3 ..
   (case e1 => PySem.W.k_is)                    -- in the order: a name -> its address -> its object -> its parts
   (case e2 => PySem.W.k_is)
   ..
  obtain ⟨t, T⟩ := T
  have e0 := hmg.symm.trans (PySem.W.mg_of KX G T.law)
  cases e0                                       -- fa is the law's own address
  exact ⟨_, fun s u => .of_eq rfl, fun base kb nb => My.law_fn T kb nb⟩     -- if «.of_eq rfl» comes too early: refine' ⟨_, ?b, fun base kb nb => My.law_fn T kb nb⟩; exact fun s u => .of_eq rfl
 case S => exact fun w H a ns hl hO hS => ..
 case C => exact ..
(the tactic k_is has no namespace: write k_is) -/
namespace L2
open PySem PySem.Spec PyProof.Rows
def defArgs(s:Stmt):Arguments:=match s with
 | .FunctionDef _ a _ _ _ _ _ _ _ _=>a
 | _=>{ posonlyargs:=[],args:=[],vararg:=none,kwonlyargs:=[],kw_defaults:=[],kwarg:=none,defaults:=[] }
def defBody(s:Stmt):List Stmt:=match s with
 | .FunctionDef _ _ b _ _ _ _ _ _ _=>b
 | _=>[]
def defScope(s:Stmt):Scope:=match s with
 | .FunctionDef _ _ _ _ _ _ sc _ _ _=>sc
 | _=>{ kind:=.function,names:=[],isGenerator:=false,isCoroutine:=false }
abbrev CX0:CXT:=fun _ _ _ _ _ _=>False
abbrev E0:XK:=fun _ _ _=>False
theorem pass0{X:Cx}:Passes CX0 X E0:=fun _ _ _ _ _ _ _ h=>h.elim
structure Fun (K:PySem.W.Frag) (x qual:Str) (st:Stmt) (f:Addr) (fd:FuncData):Prop where
 ex:∃ (oc:Value) (od:Option Addr) (kV doc pm:Value) (an:Option Addr) (cdv ct:Value) (osl:Array (Option Value)),
  fd=PySem.W.fnOf x qual (defArgs st) (defBody st) (defScope st) .none kV doc pm an cdv ct/\K.lookup f=some ⟨oc,od,.func fd,osl⟩/\PySem.W.codeIn K cdv qual=true
 kp:PySem.W.keepIn K (.ref f)=true
section
variable {P:Program} {w:World} {K:PySem.W.Frag} {mg:Str->Option Value} {base:Heap}
theorem Fun.ok{x qual:Str}{st:Stmt}{f:Addr}{fd:FuncData}{N ps:List Str}{k:Nat}{sp:Sp}(F:Fun K x qual st f fd)(S:FnScope N ps (defScope st))(len:∀ vs H Q E,sp vs H Q E->vs.length=ps.length)
  (hbody:∀ (cdv:Value) (A:Around) (outer:List Env) (s:Shared) (H:Hp) (vs:List V) (Q:VK) (E:XK),Room k (A.deeper (envOfC qual (defScope st) s.heap.objs.size f cdv))->sp vs H Q E →
   ∃ t,PSs (cxOf CX0 P w K mg base N qual (defScope st) f cdv A outer s H E).nox (defBody st) t/\t { nx:=fun _ H'=>Q .non H',rt:=Q } (start N vs) H):FnOk P w K mg base CX0 (k+1) f fd ps sp:=by
 obtain⟨oc,od,kV,doc,pm,an,cdv,ct,osl,rfl,lk,hcd⟩:=F.ex
 refine fn_of lk hcd S len fun A outer s H vs Q E hr hsp=>?_
 obtain⟨t,h,q⟩:=hbody cdv A outer s H vs Q E hr hsp
 exact⟨t,h.nox,q⟩
theorem Fun.binds{x qual:Str}{st:Stmt}{f:Addr}{fd:FuncData}{ps:List Str}(F:Fun K x qual st f fd)
  (h:∀ (kV doc pm:Value) (an:Option Addr) (cdv ct:Value) (us:List Value),us.length=ps.length->bindArgs (PySem.W.fnOf x qual (defArgs st) (defBody st) (defScope st) .none kV doc pm an cdv ct) ⟨us,[]⟩=pure (ps.zip us)):Binds K fd ps []:=by
 obtain⟨oc,od,kV,doc,pm,an,cdv,ct,osl,rfl,lk,hcd⟩:=F.ex
 exact .all (h kV doc pm an cdv ct)
theorem fun_mk{x qual:Str}{st:Stmt}{f:Addr}{oc:Value}{od an:Option Addr}{osl:Array (Option Value)}{kV doc pm cdv ct:Value}(l:K.lookup f=some ⟨oc,od,.func (PySem.W.fnOf x qual (defArgs st) (defBody st) (defScope st) .none kV doc pm an cdv ct),osl⟩)
  (c:PySem.W.codeIn K cdv qual=true) (k:PySem.W.keepIn K (.ref f)=true):Fun K x qual st f (PySem.W.fnOf x qual (defArgs st) (defBody st) (defScope st) .none kV doc pm an cdv ct):=⟨⟨oc,od,kV,doc,pm,an,cdv,ct,osl,rfl,l,c⟩,k⟩
end
theorem small1000{n:Nat}(h:n<=1000):n<sizeLine:=Nat.lt_of_le_of_lt h (by decide)
section
variable {X:Cx}
theorem pv (i:Nat) {x:Str} {pos:Pos} (hN:X.N[i]? = some x:=by rfl) (hv:Vis X.env.scope x:=by first | exact Or.inl rfl | exact Or.inr (Or.inl rfl) | exact Or.inr (Or.inr rfl)) (hd:(x==("__debug__":Str))=false:=by decide)
  (hcd:(x==("__classdict__":Str))=false:=by decide):PE X (.Name x pos) (tVar i):=pe_var hN hv hd hcd
end
theorem iteF{A B:Prop}(h:B):if false=true then A else B:=by
 rw [if_neg Bool.false_ne_true]
 exact h
theorem iteT{A B:Prop}(h:A):if true=true then A else B:=by
 rw [if_pos rfl]
 exact h
theorem ite2{c A B:Prop} [Decidable c] (h1:c->A) (h2:¬ c->B):if c then A else B:=by
 by_cases h:c
 ·rw [if_pos h]
  exact h1 h
 ·rw [if_neg h]
  exact h2 h
def Same(H H':Hp):Prop:=∀ b o,H b=some o->H' b=some o
theorem Same.refl(H:Hp):Same H H:=fun _ _ h=>h
theorem Same.trans{H H1 H2:Hp}(a:Same H H1)(b:Same H1 H2):Same H H2:=fun c o h=>b c o (a c o h)
theorem Same.free{H H':Hp}(e:Same H H'){l:Addr}(h:H' l=Option.none):H l=Option.none:=by
 cases q:H l with
 | none=>rfl
 | some o=>
  rw [e l o q] at h
  cases h
end L2
set_option maxHeartbeats 4000000
namespace L2
open PySem PySem.Spec PyProof.Rows
mutual
inductive Rep (K:PySem.W.Frag) (H:Hp):V->PyData->Prop
 | non:Rep K H .non .none
 | bl (b:Bool):Rep K H (.bl b) (.bool b)
 | int (i:Int):Rep K H (.int i) (.int i)
 | str (x:Str):Rep K H (.str x) (.str x)
 | tup {a:Addr} {xs:List V} {ds:List PyData}:SqT K H a xs->RepL K H xs ds->Rep K H (.ref a) (.tuple ds)
 | lst {a:Addr} {xs:List V} {ds:List PyData}:SqL K H a xs->RepL K H xs ds->Rep K H (.ref a) (.list ds)
inductive RepL (K:PySem.W.Frag) (H:Hp):List V->List PyData->Prop
 | nil:RepL K H [] []
 | cons {x:V} {xs:List V} {d:PyData} {ds:List PyData}:Rep K H x d->RepL K H xs ds->RepL K H (x::xs) (d::ds)
end
section
variable {X:Cx} {pins:List (Addr×Obj)} {σ:St} {H:Hp} {s:Shared}
mutual
theorem Rep.reads(I:Inv X pins σ H s):∀ {x:V} {d:PyData} {u:Value},Rep X.K H x d->RelV x u->∃ as,Reads s.heap u d as
 | _,_,_,.non,r=>by cases r;exact⟨_,.none⟩
 | _,_,_,.bl b,r=>by cases r;exact⟨_,.bool b⟩
 | _,_,_,.int i,r=>by obtain⟨t,rfl⟩:=r;exact⟨_,.int i t⟩
 | _,_,_,.str x,r=>by obtain⟨t,rfl⟩:=r;exact⟨_,.str x t⟩
 | _,_,_,.tup h hl,r=>by
  cases r
  obtain⟨its,vs,⟨o,e,c,n,dd⟩,_⟩:=I.tuple h
  obtain⟨as,ra⟩:=RepL.reads I hl vs
  exact⟨_,.tuple e c dd (by simpa using ra)⟩
 | _,_,_,.lst h hl,r=>by
  cases r
  obtain⟨its,vs,pl,_⟩:=I.list h
  obtain⟨o,e,c,n,dd⟩:=pl.isList
  obtain⟨as,ra⟩:=RepL.reads I hl vs
  exact⟨_,.list e c dd (by simpa using ra)⟩
theorem RepL.reads(I:Inv X pins σ H s):∀ {xs:List V} {ds:List PyData} {us:List Value},RepL X.K H xs ds->Vals xs us->∃ as,ReadsAll s.heap us ds as
 | _,_,_,.nil,.nil=>⟨_,.nil⟩
 | _,_,_,.cons h hl,.cons r rs=>by
  obtain⟨as,ra⟩:=Rep.reads I h r
  obtain⟨bs,rb⟩:=RepL.reads I hl rs
  exact⟨_,.cons ra rb⟩
end
end
def rEqD(K:PySem.W.Frag)(neg:Bool):R2:=fun x y H Q=>∃ d e,Rep K H x d/\Rep K H y e/\d.canLay0=true/\e.canLay0=true/\min d.depth e.depth<=60 ∧
 Q (.bl (if neg then !PyData.eqv d e else PyData.eqv d e)) H
section
variable {X:Cx}
theorem op_eqD(hu:X.A.units+64<cLine):OpR X (compareOp .Eq) (rEqD X.K false):=by
 intro pins s σ H x y v u Q I rx ry h
 obtain⟨d,e,h1,h2,h3,h4,h5,q⟩:=h
 obtain⟨as,ra⟩:=h1.reads I rx
 obtain⟨bs,rb⟩:=h2.reads I ry
 exact SeqAt.compareEq_reads ra rb h3 h4 (by omega) ⟨.bl _,H,I,rfl,q⟩
theorem op_neD(hu:X.A.units+64<cLine):OpR X (compareOp .NotEq) (rEqD X.K true):=by
 intro pins s σ H x y v u Q I rx ry h
 obtain⟨d,e,h1,h2,h3,h4,h5,q⟩:=h
 obtain⟨as,ra⟩:=h1.reads I rx
 obtain⟨bs,rb⟩:=h2.reads I ry
 exact SeqAt.compareNe_reads ra rb h3 h4 (by omega) ⟨.bl _,H,I,rfl,q⟩
open Classical in
noncomputable def eqR (h:Heap) (d:PyData) (u:Value):Bool:=if z:∃ e as,Reads h u e as/\e.canLay0=true then PyData.eqv z.choose d else false
theorem eqR_of{h:Heap}{d e:PyData}{u:Value}{as:List Addr}(r:Reads h u e as)(c:e.canLay0=true):eqR h d u=PyData.eqv e d:=by
 have z:∃ e as,Reads h u e as/\e.canLay0=true:=⟨e,as,r,c⟩
 unfold eqR
 rw [dif_pos z]
 obtain⟨as',r',c'⟩:=z.choose_spec
 rw [SeqAt.Reads.unique _ _ _ _ _ c' r' r]
theorem any_eqR{h:Heap}{d:PyData}:∀ {us:List Value} {es:List PyData} {as:List Addr},ReadsAll h us es as->PyData.canLayAll0 es=true->us.any (eqR h d)=es.any fun e=>PyData.eqv e d
 | _,_,_,.nil,_=>rfl
 | _,_,_,.cons r rs,c=>by
  have c':(PyData.canLay0 _&&PyData.canLayAll0 _)=true:=c
  rw [Bool.and_eq_true] at c'
  rw [List.any_cons,List.any_cons,eqR_of r c'.1,any_eqR rs c'.2]
theorem mem_eqR{A:Around}{s:Shared}{d:PyData}{x:Value}{bs:List Addr}(rx:Reads s.heap x d bs)(cx:d.canLay0=true)(hu:A.units+d.depth<cLine):
  ∀ {us:List Value} {es:List PyData} {as:List Addr},ReadsAll s.heap us es as->PyData.canLayAll0 es=true->∀ u∈us,SeqAt.EqAt A s u x (eqR s.heap d u)
 | _,_,_,.nil,_=>fun u hu=>nomatch hu
 | _,_,_,.cons r rs,c=>fun u hm=>by
  have c':(PyData.canLay0 _&&PyData.canLayAll0 _)=true:=c
  rw [Bool.and_eq_true] at c'
  rcases List.mem_cons.mp hm with rfl | hm
  ·rw [eqR_of r c'.1]
   exact SeqAt.eqAt_reads _ _ A s _ _ _ _ r rx c'.1 cx (by omega)
  ·exact mem_eqR rx cx hu rs c'.2 u hm
def rInD(K:PySem.W.Frag)(neg:Bool):R2:=fun x y H Q=>∃ d es p xs,Rep K H x d/\y=.ref p/\(SqL K H p xs\/SqT K H p xs)/\RepL K H xs es/\d.canLay0=true/\PyData.canLayAll0 es=true/\d.depth<=60 ∧
 Q (.bl (if neg then !(es.any fun e=>PyData.eqv e d) else es.any fun e=>PyData.eqv e d)) H
theorem op_inD(hu:X.A.units+64<cLine):OpR X (compareOp .In) (rInD X.K false):=by
 intro pins s σ H x y v u Q I rx ry h
 obtain⟨d,es,p,xs,h1,rfl,hq,h2,h3,h4,h5,q⟩:=h
 cases ry
 obtain⟨as,ra⟩:=h1.reads I rx
 rcases hq with hq | hq
 ·obtain⟨its,r,pl,hz⟩:=I.list hq
  obtain⟨bs,rb⟩:=h2.reads I r
  refine SeqAt.in_listAt (eqR s.heap d) pl.isList (fun z hz=>mem_eqR (A:=X.A.in1) ra h3 (by show X.A.units+1+d.depth<cLine;omega) rb h4 z (by simpa using hz)) ⟨.bl _,H,I,rfl,?_⟩
  rw [show its.toArray.any (eqR s.heap d)=its.any (eqR s.heap d) by simp,any_eqR rb h4]
  exact q
 ·obtain⟨its,r,pl,hz⟩:=I.tuple hq
  obtain⟨bs,rb⟩:=h2.reads I r
  refine SeqAt.in_tupleAt (eqR s.heap d) pl (fun z hz=>mem_eqR (A:=X.A.in1) ra h3 (by show X.A.units+1+d.depth<cLine;omega) rb h4 z (by simpa using hz)) ⟨.bl _,H,I,rfl,?_⟩
  rw [show its.toArray.any (eqR s.heap d)=its.any (eqR s.heap d) by simp,any_eqR rb h4]
  exact q
def rIsi(K:PySem.W.Frag):List V->Hp->VK->Prop:=fun xs H Q=>∃ x T t b,xs=[x,.ty T]/\TyOf K H x t/\PySem.W.kitOne K t (.type T)=some b/\Q (.bl b) H
theorem call_isi:CallR X (.builtin "isinstance") (rIsi X.K):=by
 intro pins s σ H xs us Q I r h
 obtain⟨x,T,t,b,rfl,ty,e,q⟩:=h
 obtain⟨u,w,rfl,rx,rw'⟩:=Vals.two r
 cases (show w=Value.type T from rw')
 exact isinst_ok I rx ty e fun tk=>⟨.bl b,H,I.tok tk,rfl,q⟩
def tChain3(r r' r2:R2)(ta tb tc td:TE):TE:=fun σ H Q=>ta σ H fun x H1=>tb σ H1 fun y H2=>r x y H2 fun z H3=>∃ k,z=.bl k ∧
 (if k=true then tc σ H3 fun w' H4=>r' y w' H4 fun z2 H5=>∃ k2,z2=.bl k2/\(if k2=true then td σ H5 fun e H6=>r2 w' e H6 Q else Q (.bl false) H5) else Q (.bl false) H3)
theorem pt_chain3{a b c d:Expr}{ta tb tc td:TE}{pos:Pos}{op op' op2:CmpOp}{r r' r2:R2}(ho:OpR X (compareOp op) r)(ho':OpR X (compareOp op') r')(ho2:OpR X (compareOp op2) r2)(ha:PE X a ta)(hb:PE X b tb)(hc:PE X c tc)(hd:PE X d td)
  (hm:lastMarks [op,op',op2] [b,c,d]=false:=by with_unfolding_all rfl):PT X (.Compare a [op,op',op2] [b,c,d] pos) (tTest (tChain3 r r' r2 ta tb tc td)):=by
 intro pins s σ H Q I h
 refine isTrue_chain (thn (ha pins s σ H _ I h) fun v s1 ⟨x,H1,I1,r1,q1⟩=>test_link (thn (hb pins s1 σ H1 _ I1 q1) fun u s2 ⟨y,H2,I2,r2',q2⟩=>
  thn (ho pins s2 σ H2 x y v u _ I2 r1 r2' q2) fun e s3 ⟨z,H3,I3,r3,k,ek,q3⟩=>?_)) hm
 subst ek
 cases r3
 refine wpAny_truthy_bool ?_
 cases k with
 | false=>
  obtain⟨k',e',q'⟩:=q3
  cases e'
  exact ite_ff ⟨H3,I3,q'⟩
 | true=>
  refine ite_tt (test_link (thn (hc pins s3 σ H3 _ I3 q3) fun w' s4 ⟨z',H4,I4,r4,q4⟩=>thn (ho' pins s4 σ H4 y z' u w' _ I4 r2' r4 q4) fun d' s5 ⟨z2,H5,I5,r5,k2,e2,q5⟩=>?_))
  subst e2
  cases r5
  refine wpAny_truthy_bool ?_
  cases k2 with
  | false=>
   obtain⟨k',e',q'⟩:=q5
   cases e'
   exact ite_ff ⟨H5,I5,q'⟩
  | true=>
   refine ite_tt (test_last (thn (hd pins s5 σ H5 _ I5 q5) fun w2 s6 ⟨z6,H6,I6,r6,q6⟩=>thn (ho2 pins s6 σ H6 z' z6 w' w2 _ I6 r4 r6 q6) fun d7 s7 ⟨z7,H7,I7,r7,k7,e7,q7⟩=>?_))
   subst e7
   cases r7
   exact wpAny_truthy_bool ⟨H7,I7,q7⟩
def rngZ(lo:Int)(n:Nat):List Int:=(List.range n).map fun (i:Nat)=>lo+(i:Int)
theorem vals_at:∀ {xs:List V} {us:List Value},xs.length=us.length->(∀ (j:Nat) x u,xs[j]? = some x->us[j]? = some u->RelV x u)->Vals xs us
 | [],[],_,_=>.nil
 | [],_::_,h,_=>by simp at h
 | _::_,[],h,_=>by simp at h
 | x::xs,u::us,h,f=>.cons (f 0 x u rfl rfl) (vals_at (by simpa using h) fun j a b ha hb=>f (j+1) a b (by simpa using ha) (by simpa using hb))
theorem items_vals{lo:Int}{n:Nat}{acc:Array Value}(h:ItemsOf (fun i v=>∃ t,v=.int (lo+i * 1) t) acc n):Vals ((rngZ lo n).map V.int) acc.toList:=by
 refine vals_at (by simp [rngZ,h.1]) fun j x u hx hu=>?_
 obtain⟨t,rfl⟩:=h.2 j u (by simpa using hu)
 have hj:j<n:=by
  have:=(List.getElem?_eq_some_iff.mp hx).1
  simpa [rngZ] using this
 have e:((rngZ lo n).map V.int)[j]? = some (.int (lo+(j:Int))):=by simp [rngZ,hj]
 rw [e] at hx
 cases hx
 exact⟨t,by simp⟩
theorem call_rng2:CallR X (.type "range") (fun xs H Q=>∃ i j:Int,xs=[.int i,.int j]/\∀ p,H p=none->Q (.ref p) (upd H p (.rng i j))):=by
 intro pins s σ H xs us Q I r h
 obtain⟨i,j,rfl,q⟩:=h
 obtain⟨u,u',rfl,⟨t,rfl⟩,t',rfl⟩:=Vals.two r
 exact call_range_2 ⟨.ref s.heap.objs.size,_,I.laid (fun b o e=>Heap.get?_push_of_some _ e) (Nat.le_refl _) (show ObjOk X.prog X.w _ _ _ (.rng i j) from ⟨_,_,_,Heap.get?_push_size _ rfl⟩),rfl,q _ (I.hok.fresh (Nat.le_refl _))⟩
theorem call_list_rng (hc:X.calm=true):CallR X (.type "list") (fun xs H Q=>∃ p lo hi,xs=[.ref p]/\H p=some (.rng lo hi)/\(-(2 ^ 30)<=lo/\lo<2 ^ 30/\-(2 ^ 30)<=hi/\hi<2 ^ 30/\(hi - lo).toNat<=1000) ∧
  ∀ l,H l=none->Q (.ref l) (upd H l (.lst ((rngZ lo (hi - lo).toNat).map V.int)))):=by
 intro pins s σ H xs us Q I r h
 obtain⟨p,lo,hi,rfl,hp,⟨b1,b2,b3,b4,b5⟩,q⟩:=h
 obtain⟨u,rfl,rx⟩:=vals1 r
 cases rx
 obtain⟨t,u,v,e⟩:=(show ObjOk X.prog X.w H s.heap p (.rng lo hi) from I.hok p _ hp)
 have hn:Builtin.Range.rangeSize lo hi 1=(((hi - lo).toNat:Nat):Int):=by rw [rangeSize_one];split<;>omega
 refine call_list_range (n:=(hi - lo).toNat) (I.ok.hd hc) (show IsRange s.heap p lo hi 1 t u v from e) (small_one (by omega) (by omega) (by omega) (by omega)) hn (by omega) fun h' tk acc' c' kp e' hit=>?_
 have hv:=items_vals hit
 have hz:((rngZ lo (hi - lo).toNat).map V.int).length<=sizeLine:=by
  rw [List.length_map,rngZ,List.length_map,List.length_range]
  exact Nat.le_of_lt (small1000 b5)
 exact⟨.ref s.heap.objs.size,_,I.laid kp (Nat.le_refl _) (show ObjOk X.prog X.w _ h' _ (.lst _) from ⟨hz,acc'.toList,c',hv,by simpa using e'⟩),rfl,q _ (I.hok.fresh (Nat.le_refl _))⟩
end
structure Fn (K:PySem.W.Frag) (mg:Str->Option Value) (x:Str) (st:Stmt) (ps:List Str):Prop where
 ex:∃ f fd,Fun K x x st f fd/\mg x=some (.ref f)/\Binds K fd ps []
structure Def (P:Program) (w:World) (K:PySem.W.Frag) (mg:Str->Option Value) (base:Heap) (k:Nat) (x:Str) (st:Stmt) (ps:List Str) (sp:Sp):Prop where
 ex:∃ f fd,Fun K x x st f fd/\mg x=some (.ref f)/\Binds K fd ps []/\FnOk P w K mg base CX0 k f fd ps sp
theorem Fn.mk'{P:Program}{w:World}{K:PySem.W.Frag}{mg:Str->Option Value}{base:Heap}{k:Nat}{x:Str}{st:Stmt}{ps:List Str}{sp:Sp}(E:Fn K mg x st ps)
  (h:∀ f fd,Fun K x x st f fd->FnOk P w K mg base CX0 k f fd ps sp):Def P w K mg base k x st ps sp:=by
 obtain⟨f,fd,F,m,b⟩:=E.ex
 exact⟨f,fd,F,m,b,h f fd F⟩
theorem Same.new{H H2:Hp}{l:Addr}{o:HO}(s:Same H H2)(h:H l=none):Same H (upd H2 l o):=fun b u e=>by rw [upd_ne (ne_of_none e h)];exact s b u e
theorem paired_imp{α β:Type}{R S:α->β->Prop}:∀ {xs:List α} {ys:List β},Paired R xs ys->(∀ a b,R a b->S a b)->Paired S xs ys
 | _,_,.nil,_=>.nil
 | _,_,.cons r t,f=>.cons (f _ _ r) (paired_imp t f)
theorem paired_get{α β:Type}{R:α->β->Prop}:∀ {xs:List α} {ys:List β} {i:Nat} {x:α},Paired R xs ys->xs[i]? = some x->∃ y,ys[i]? = some y/\R x y
 | _,_,_,_,.nil,e=>by simp at e
 | _,_,0,_,.cons r _,e=>by simp at e;subst e;exact⟨_,rfl,r⟩
 | _,_,i+1,x,.cons _ t,e=>by
  obtain⟨y,h1,h2⟩:=paired_get (i:=i) (x:=x) t (by simpa using e)
  exact⟨y,by simpa using h1,h2⟩
theorem pe_globI {X:Cx} {x:Str} {i:Int} {pos:Pos} (hg:Gl X x) (hm:∃ t,X.mg x=some (.int i t)) (hd:(x==("__debug__":Str))=false:=by decide):PE X (.Name x pos) (tC (.int i)):=
 let ⟨t,h⟩:=hm
 pe_glob hg h ⟨t,rfl⟩ hd
theorem pe_callD{X:Cx}{k:Nat}{x:Str}{st:Stmt}{ps:List Str}{sp:Sp}{e:Expr}{es:List Expr}{t:TA}{p pos:Pos}(D:Def X.prog X.w X.K X.mg X.base k x st ps sp)(hr:Room k X.A)(hg:Gl X x)(ha:PA X (e::es) t)
  (hdb:(x==("__debug__":Str))=false:=by decide) (he:starEach (e::es) X.env=(false,eval e X.env)::starEach es X.env:=by rfl) (hpl:(backTo pos (starEach es X.env)).any (·.1)=false:=by rfl) :
  PE X (.Call (.Name x p) (e::es) [] pos) (tCall sp [] E0 t):=by
 obtain⟨f,fd,F,m,b,G⟩:=D.ex
 exact pe_call G hr hg m F.kp b .nil pass0 ha hdb he hpl
section
variable {σ:St} {H:Hp} {Q:VK} {D:Ends}
theorem w_var0{v:V}:tVar 0 (some v::σ) H Q=Q v H:=propext ⟨fun ⟨_,e,h⟩=>by cases e;exact h,fun h=>⟨v,rfl,h⟩⟩
theorem w_varS{i:Nat}{x:Option V}:tVar (i+1) (x::σ) H Q=tVar i σ H Q:=rfl
theorem w_c{v:V}:tC v σ H Q=Q v H:=rfl
theorem w_op{r:R2}{ta tb:TE}:tOp r ta tb σ H Q=ta σ H fun x H1=>tb σ H1 fun y H2=>r x y H2 Q:=rfl
theorem w_un{r:V->Hp->VK->Prop}{ta:TE}:tUn r ta σ H Q=ta σ H fun x H1=>r x H1 Q:=rfl
theorem w_I0{g:Int->Int->V}{i j:Int}:rI0 g (.int i) (.int j) H Q=Q (g i j) H:=propext ⟨fun ⟨_,_,e,e',h⟩=>by cases e;cases e';exact h,fun h=>⟨i,j,rfl,rfl,h⟩⟩
theorem w_I{C:Int->Int->Prop}{g:Int->Int->V}{i j:Int}:rI C g (.int i) (.int j) H Q=(C i j/\Q (g i j) H):=propext ⟨fun ⟨_,_,e,e',h⟩=>by cases e;cases e';exact h,fun h=>⟨i,j,rfl,rfl,h⟩⟩
theorem w_U{g:Int->V}{i:Int}:rU g (.int i) H Q=Q (g i) H:=propext ⟨fun ⟨_,e,h⟩=>by cases e;exact h,fun h=>⟨i,rfl,h⟩⟩
theorem w_eqI{i j:Int}:rEq (.int i) (.int j) H Q=Q (.bl (decide (i=j))) H:=propext ⟨fun ⟨_,h⟩=>by simpa using h,fun h=>⟨rfl,by simpa using h⟩⟩
theorem w_neI{i j:Int}:rNe (.int i) (.int j) H Q=Q (.bl (!decide (i=j))) H:=propext ⟨fun ⟨_,h⟩=>by simpa using h,fun h=>⟨rfl,by simpa using h⟩⟩
theorem w_eqS{i j:Str}:rEq (.str i) (.str j) H Q=Q (.bl (decide (i=j))) H:=propext ⟨fun ⟨_,h⟩=>by simpa using h,fun h=>⟨rfl,by simpa using h⟩⟩
theorem w_neS{i j:Str}:rNe (.str i) (.str j) H Q=Q (.bl (!decide (i=j))) H:=propext ⟨fun ⟨_,h⟩=>by simpa using h,fun h=>⟨rfl,by simpa using h⟩⟩
theorem w_eqB{i j:Bool}:rEq (.bl i) (.bl j) H Q=Q (.bl (decide (i=j))) H:=propext ⟨fun ⟨_,h⟩=>by simpa using h,fun h=>⟨rfl,by simpa using h⟩⟩
theorem w_neB{i j:Bool}:rNe (.bl i) (.bl j) H Q=Q (.bl (!decide (i=j))) H:=propext ⟨fun ⟨_,h⟩=>by simpa using h,fun h=>⟨rfl,by simpa using h⟩⟩
theorem w_exB{b:Bool}{q:Bool->Prop}:(∃ k,V.bl b=.bl k/\q k)=q b:=propext ⟨fun ⟨_,e,h⟩=>by cases e;exact h,fun h=>⟨b,rfl,h⟩⟩
theorem w_exI{b:Int}{q:Int->Prop}:(∃ k,V.int b=.int k/\q k)=q b:=propext ⟨fun ⟨_,e,h⟩=>by cases e;exact h,fun h=>⟨b,rfl,h⟩⟩
theorem w_addS{i j:Str}{q:Str->Str->Prop}:(∃ a b,V.str i=.str a/\V.str j=.str b/\q a b)=q i j:=
 propext ⟨fun ⟨_,_,e,e',h⟩=>by cases e;cases e';exact h,fun h=>⟨i,j,rfl,rfl,h⟩⟩
theorem w_K{CX:CXT}{P:Program}{w:World}{K:PySem.W.Frag}{mg:Str->Option Value}{base:Heap}{N:List Str}{qual:Str}{scope:Scope}{f:Addr}{cd:Value}{A:Around}{outer:List Env}{s:Shared}{H:Hp}{E:XK}:(cxOf CX P w K mg base N qual scope f cd A outer s H E).K=K:=rfl
theorem w_aug{i:Nat}{te:TE}{ti:TIp}:tAug i te ti D σ H=tVar i σ H fun x _=>te σ H fun y H1=>ti x y H1 fun z H2=>D.nx (σ.set i (some z)) H2:=rfl
theorem w_ip{f:Int->Int->Int}{i j:Int}:ipI f (.int i) (.int j) H Q=Q (.int (f i j)) H:=propext ⟨fun ⟨_,_,e,e',h⟩=>by cases e;cases e';exact h,fun h=>⟨i,j,rfl,rfl,h⟩⟩
theorem w_exB2{a b:Bool}{q:Bool->Bool->Prop}:(∃ c d,V.bl a=.bl c/\V.bl b=.bl d/\q c d)=q a b:=propext ⟨fun ⟨_,_,e,e',h⟩=>by cases e;cases e';exact h,fun h=>⟨a,b,rfl,rfl,h⟩⟩
theorem w_exR{a:Addr}{q:Addr->Prop}:(∃ b,V.ref a=.ref b/\q b)=q a:=propext ⟨fun ⟨_,e,h⟩=>by cases e;exact h,fun h=>⟨a,rfl,h⟩⟩
theorem w_exR2{α:Type}{a:Addr}{q:Addr->α->Prop}:(∃ b y,V.ref a=.ref b/\q b y)=∃ y,q a y:=propext ⟨fun ⟨_,y,e,h⟩=>by cases e;exact⟨y,h⟩,fun ⟨y,h⟩=>⟨a,y,rfl,h⟩⟩
theorem w_ex1I{i:Int}{q:Int->Prop}:(∃ j,[V.int i]=[.int j]/\q j)=q i:=propext ⟨fun ⟨_,e,h⟩=>by cases e;exact h,fun h=>⟨i,rfl,h⟩⟩
theorem w_ex1S{i:Str}{q:Str->Prop}:(∃ j,[V.str i]=[.str j]/\q j)=q i:=propext ⟨fun ⟨_,e,h⟩=>by cases e;exact h,fun h=>⟨i,rfl,h⟩⟩
theorem w_ex1R{α:Type}{i:Addr}{q:Addr->α->Prop}:(∃ j y,[V.ref i]=[.ref j]/\q j y)=∃ y,q i y:=propext ⟨fun ⟨_,y,e,h⟩=>by cases e;exact⟨y,h⟩,fun ⟨y,h⟩=>⟨i,y,rfl,h⟩⟩
theorem w_ex2R{α β:Type}{i:Addr}{q:Addr->α->β->Prop}:(∃ j y z,[V.ref i]=[.ref j]/\q j y z)=∃ y z,q i y z:=propext ⟨fun ⟨_,y,z,e,h⟩=>by cases e;exact⟨y,z,h⟩,fun ⟨y,z,h⟩=>⟨i,y,z,rfl,h⟩⟩
theorem w_ex2I{i j:Int}{q:Int->Int->Prop}:(∃ a b,[V.int i,V.int j]=[.int a,.int b]/\q a b)=q i j:=propext ⟨fun ⟨_,_,e,h⟩=>by cases e;exact h,fun h=>⟨i,j,rfl,h⟩⟩
theorem w_int1{b:Bool}{q:Int->Prop}{r:Bool->Prop}:((∃ i,[V.bl b]=[.int i]/\q i)\/∃ k,[V.bl b]=[.bl k]/\r k)=r b:=
 propext ⟨fun h=>by rcases h with ⟨_,e,_⟩ | ⟨_,e,h⟩<;>cases e;exact h,fun h=>.inr ⟨b,rfl,h⟩⟩
theorem w_ixS{z:Str}{i:Int}:rIxS (.str z) (.int i) H Q=(z.length<=sizeLine/\∃ c,atI z.cps.toList i=some c/\Q (.str ⟨#[c]⟩) H):=
 propext ⟨fun ⟨_,_,c,e,e',h1,h2,h3⟩=>by cases e;cases e';exact⟨h1,c,h2,h3⟩,fun ⟨h1,c,h2,h3⟩=>⟨z,i,c,rfl,rfl,h1,h2,h3⟩⟩
theorem w_ixL{K:PySem.W.Frag}{p:Addr}{i:Int}:rIxL K (.ref p) (.int i) H Q=∃ xs v,SqL K H p xs/\atI xs i=some v/\Q v H:=
 propext ⟨fun ⟨_,xs,_,v,e,e',h⟩=>by cases e;cases e';exact⟨xs,v,h⟩,fun ⟨xs,v,h⟩=>⟨p,xs,i,v,rfl,rfl,h⟩⟩
theorem w_ixT{K:PySem.W.Frag}{p:Addr}{i:Int}:rIxT K (.ref p) (.int i) H Q=∃ xs v,SqT K H p xs/\atI xs i=some v/\Q v H:=
 propext ⟨fun ⟨_,xs,_,v,e,e',h⟩=>by cases e;cases e';exact⟨xs,v,h⟩,fun ⟨xs,v,h⟩=>⟨p,xs,i,v,rfl,rfl,h⟩⟩
theorem w_app{l:Addr}{y:V}:rAppend (.ref l) [y] H Q=∃ xs,H l=some (.lst xs)/\xs.length<sizeLine/\Q .non (upd H l (.lst (xs++[y]))):=
 propext ⟨fun ⟨_,xs,_,e,e',h⟩=>by cases e;cases e';exact⟨xs,h⟩,fun ⟨xs,h⟩=>⟨l,xs,y,rfl,rfl,h⟩⟩
theorem w_pop{l:Addr}:rPop (.ref l) [] H Q=∃ xs y,H l=some (.lst xs)/\xs[xs.length - 1]? = some y/\Q y (upd H l (.lst xs.dropLast)):=
 propext ⟨fun ⟨_,xs,y,e,_,h⟩=>by cases e;exact⟨xs,y,h⟩,fun ⟨xs,y,h⟩=>⟨l,xs,y,rfl,rfl,h⟩⟩
theorem got_map{α:Type}{f:α->V}{l:List α}{k:Nat}{y:V}(h:(l.map f)[k]? = some y):∃ x,l[k]? = some x/\y=f x:=by
 rw [List.getElem?_map] at h
 cases e:l[k]? with
 | none=>rw [e] at h;cases h
 | some x=>rw [e] at h;exact⟨x,rfl,(Option.some.inj h).symm⟩
theorem w_tyL {K:PySem.W.Frag} {l:Addr} {xs:List V} (h:H l=some (.lst xs)):tyV K "list" (.ref l) H:=.inl ⟨rfl,xs,SqL.of h⟩
theorem w_test{t:TE}{q:Bool->Hp->Prop}:tTest t σ H q=t σ H fun x H'=>∃ k,x=.bl k/\q k H':=rfl
theorem w_tB{t:TE}{q:Bool->Hp->Prop}:tB t σ H q=t σ H fun x H'=>∃ k,x=.bl k/\q k H':=rfl
theorem w_and{t u:TT}{q:Bool->Hp->Prop}:tAnd t u σ H q=t σ H fun c H1=>if c=true then u σ H1 q else q false H1:=rfl
theorem w_or{t u:TT}{q:Bool->Hp->Prop}:tOr t u σ H q=t σ H fun c H1=>if c=true then q true H1 else u σ H1 q:=rfl
theorem w_not{t:TT}{q:Bool->Hp->Prop}:tNot t σ H q=t σ H fun c H1=>q (!c) H1:=rfl
theorem w_andV{ta tb:TE}:tAndV ta tb σ H Q=ta σ H fun x H1=>∃ c,x=.bl c/\if c=true then tb σ H1 Q else Q (.bl false) H1:=rfl
theorem w_orV{ta tb:TE}:tOrV ta tb σ H Q=ta σ H fun x H1=>∃ c,x=.bl c/\if c=true then Q (.bl true) H1 else tb σ H1 Q:=rfl
theorem w_notV{ta:TE}:tNotV ta σ H Q=ta σ H fun x H1=>∃ c,x=.bl c/\Q (.bl (!c)) H1:=rfl
theorem w_if{t:TT}{ta tb:TE}:tIf t ta tb σ H Q=t σ H fun c H1=>if c=true then ta σ H1 Q else tb σ H1 Q:=rfl
theorem w_seq{t u:TS}:tSeq t u D σ H=t { nx:=u D,rt:=D.rt,bk:=D.bk,ct:=D.ct } σ H:=rfl
theorem w_next:tNext D σ H=D.nx σ H:=rfl
theorem w_brk:tBreak D σ H=D.bk σ H:=rfl
theorem w_cont:tCont D σ H=D.ct σ H:=rfl
theorem w_drop{te:TE}:tDrop te D σ H=te σ H fun _ H1=>D.nx σ H1:=rfl
theorem w_ret{te:TE}:tRet te D σ H=te σ H D.rt:=rfl
theorem w_retN:tRetN D σ H=D.rt .non H:=rfl
theorem w_ifS{c:TT}{t u:TS}:tIfS c t u D σ H=c σ H fun b H1=>if b=true then t D σ H1 else u D σ H1:=rfl
theorem w_asg{te:TE}{g:TG}:tAsg te g D σ H=te σ H fun x H1=>g x σ H1 D.nx:=rfl
theorem w_gName{i:Nat}{v:V}{q:St->Hp->Prop}:gName i v σ H q=q (σ.set i (some v)) H:=rfl
theorem w_set0{v:V}{x:Option V}:List.set (x::σ) 0 (some v)=some v::σ:=rfl
theorem w_setS{i:Nat}{v:V}{x:Option V}:List.set (x::σ) (i+1) (some v)=x::List.set σ i (some v):=rfl
theorem w_nil{q:List V->Hp->Prop}:tNil σ H q=q [] H:=rfl
theorem w_cons{ta:TE}{tr:TA}{q:List V->Hp->Prop}:tCons ta tr σ H q=ta σ H fun x H1=>tr σ H1 fun xs H2=>q (x::xs) H2:=rfl
theorem w_cb{r:List V->Hp->VK->Prop}{t:TA}:tCB r t σ H Q=t σ H fun vs H1=>r vs H1 Q:=rfl
theorem w_tup{t:TA}:tTup t σ H Q=t σ H fun xs H1=>xs.length<=sizeLine/\∀ p,H1 p=none->Q (.ref p) (upd H1 p (.tup xs)):=rfl
theorem w_lst{t:TA}:tLst t σ H Q=t σ H fun xs H1=>xs.length<=sizeLine/\∀ p,H1 p=none->Q (.ref p) (upd H1 p (.lst xs)):=rfl
theorem w_call{sp:Sp}{dvs:List V}{E:XK}{t:TA}:tCall sp dvs E t σ H Q=t σ H fun vs H1=>sp (vs++dvs) H1 Q E:=rfl
theorem w_bm{K:PySem.W.Frag}{T:String}{r:V->List V->Hp->VK->Prop}{to:TE}{t:TA}:tBM K T r to t σ H Q=to σ H fun x H1=>tyV K T x H1/\t σ H1 fun xs H2=>r x xs H2 Q:=rfl
theorem w_bm0{K:PySem.W.Frag}{T:String}{r:V->List V->Hp->VK->Prop}{to:TE}:tBM0 K T r to σ H Q=to σ H fun x H1=>tyV K T x H1/\r x [] H1 Q:=rfl
def ForJ(J:It)(g:TG)(tb:TS)(D:Ends)(σ:St)(H1:Hp):Prop:=∃ W:Nat->Nat->St->Hp->Prop,(∃ m,W 0 m σ H1)/\∀ i m σ H,W i m σ H →
 (J.stop i H/\D.nx σ H)\/(J.go i H/\∃ N:St->Hp->Prop,(∀ σ' H',N σ' H'->∃ m',m'<m/\W (i+1) m' σ' H')/\∀ x H',J.yld i H x H'->g x σ H' fun σ2 H2=>tb { D with nx:=N,ct:=N,bk:=D.nx } σ2 H2)
theorem w_for1{ta:TA}{g:TG}{tb:TS}:tFor (iRng1 ta) g tb D σ H=ta σ H fun vs H1=>∃ j:Int,vs=[.int j]/\-(2 ^ 62)<=j/\j<2 ^ 62/\ForJ (Itr 0 j.toNat) g tb D σ H1:=rfl
theorem w_for2{ta:TA}{g:TG}{tb:TS}:tFor (iRng2 ta) g tb D σ H=ta σ H fun vs H1=>∃ i j:Int,vs=[.int i,.int j]/\(-(2 ^ 62)<=i/\i<2 ^ 62/\-(2 ^ 62)<=j/\j<2 ^ 62)/\ForJ (Itr i (j - i).toNat) g tb D σ H1:=rfl
theorem w_forL{K:PySem.W.Frag}{tl:TE}{g:TG}{tb:TS}:tFor (iList K tl) g tb D σ H=tl σ H fun x H1=>∃ a,x=.ref a/\(∃ xs,SqL K H1 a xs)/\ForJ (Itl K a) g tb D σ H1:=rfl
theorem w_forT{K:PySem.W.Frag}{tl:TE}{g:TG}{tb:TS}:tFor (iTup K tl) g tb D σ H=tl σ H fun x H1=>∃ a,x=.ref a/\(∃ xs,SqT K H1 a xs)/\ForJ (Itt K a) g tb D σ H1:=rfl
theorem w_gTup{K:PySem.W.Frag}{n:Nat}{t:TGs}{v:V}{q:St->Hp->Prop}:gTup K n t v σ H q=∃ a xs,v=.ref a/\SqT K H a xs/\xs.length=n/\t xs σ H q:=rfl
theorem w_gNil{q:St->Hp->Prop}:gNil [] σ H q=q σ H:=propext ⟨fun h=>h.2,fun h=>⟨rfl,h⟩⟩
theorem w_gCons{t:TG}{u:TGs}{v:V}{r:List V}{q:St->Hp->Prop}:gCons t u (v::r) σ H q=t v σ H fun σ' H'=>u r σ' H' q:=propext ⟨fun ⟨_,_,e,h⟩=>by cases e;exact h,fun h=>⟨v,r,rfl,h⟩⟩
theorem w_chain3{r r' r2:R2}{ta tb tc td:TE}:tChain3 r r' r2 ta tb tc td σ H Q=ta σ H fun x H1=>tb σ H1 fun y H2=>r x y H2 fun z H3=>∃ k,z=.bl k ∧
 (if k=true then tc σ H3 fun w' H4=>r' y w' H4 fun z2 H5=>∃ k2,z2=.bl k2/\(if k2=true then td σ H5 fun e H6=>r2 w' e H6 Q else Q (.bl false) H5) else Q (.bl false) H3):=rfl
theorem w_chain{r r':R2}{ta tb tc:TE}:tChain r r' ta tb tc σ H Q=ta σ H fun x H1=>tb σ H1 fun y H2=>r x y H2 fun z H3=>∃ k,z=.bl k ∧
 (if k=true then tc σ H3 fun w' H4=>r' y w' H4 Q else Q (.bl false) H3):=rfl
end
theorem us1{P:List Value->Prop}(h:∀ a:Value,P [a]):∀ us:List Value,us.length=1->P us
 | [a],_=>h a
theorem usS{P:List Value->Prop}{n:Nat}(h:∀ (a:Value) (r:List Value),r.length=n->P (a::r)):∀ us:List Value,us.length=n+1->P us
 | a::r,e=>h a r (Nat.succ.inj e)
theorem us2{P:List Value->Prop}(h:∀ a b:Value,P [a,b]):∀ us:List Value,us.length=2->P us:=usS fun a=>us1 fun b=>h a b
theorem us3{P:List Value->Prop}(h:∀ a b c:Value,P [a,b,c]):∀ us:List Value,us.length=3->P us:=usS fun a=>us2 fun b c=>h a b c
theorem us4{P:List Value->Prop}(h:∀ a b c d:Value,P [a,b,c,d]):∀ us:List Value,us.length=4->P us:=usS fun a=>us3 fun b c d=>h a b c d
end L2
namespace Rm
def dl(b:Bool):Int:=if b then 1 else -1
def D(bs:List Bool)(i:Nat):Int:=((bs.take i).map dl).sum
structure Mate (bs:List Bool) (k m:Nat):Prop where
 lt:k<m
 ml:m<bs.length
 op:bs[k]? = some true
 cl:bs[m]? = some false
 eq:D bs (m+1)=D bs k
 gt:∀ i,k<i->i<=m->D bs k<D bs i
end Rm
namespace L2
open PySem PySem.Spec PyProof.Rows
theorem Fun.okS{P:Program}{w:World}{K:PySem.W.Frag}{mg:Str->Option Value}{base:Heap}{x qual:Str}{st:Stmt}{f:Addr}{fd:FuncData}{N ps:List Str}{k:Nat}{sp:Sp}(F:Fun K x qual st f fd)(S:FnScope N ps (defScope st))(len:∀ vs H Q E,sp vs H Q E->vs.length=ps.length)
  (hbody:∀ (cdv:Value) (A:Around) (outer:List Env) (s:Shared) (H:Hp) (vs:List V) (Q:VK) (E:XK),Room k (A.deeper (envOfC qual (defScope st) s.heap.objs.size f cdv))->sp vs H Q E →
   ∃ (σ:St) (t:TS),start N vs=σ/\PSs (cxOf CX0 P w K mg base N qual (defScope st) f cdv A outer s H E).nox (defBody st) t/\t { nx:=fun _ H'=>Q .non H',rt:=Q } σ H):FnOk P w K mg base CX0 (k+1) f fd ps sp:=
 F.ok S len fun cdv A outer s H vs Q E hr h=>by
  obtain⟨σ,t,e,h1,h2⟩:=hbody cdv A outer s H vs Q E hr h
  exact⟨t,h1,by rw [e];exact h2⟩
theorem hu_64{A:Around}{k:Nat}(hr:Room k A):A.units+64<cLine:=hr.units
end L2
namespace Rm
open PySem L2
abbrev Bw:=Int×Int
def tupAt(H:Hp)(a:Addr)(p:Bw):Prop:=H a=some (.tup [.int p.1,.int p.2])
def BowsAt(H:Hp)(l:Addr)(ps:List Bw):Prop:=∃ as:List Addr,H l=some (.lst (as.map V.ref))/\Paired (tupAt H) as ps
theorem tupAt.same{H H':Hp}(s:Same H H'){a:Addr}{p:Bw}(h:tupAt H a p):tupAt H' a p:=s _ _ h
theorem BowsAt.same{H H':Hp}(s:Same H H'){l:Addr}{ps:List Bw}(h:BowsAt H l ps):BowsAt H' l ps:=
 let ⟨as,h1,h2⟩:=h
 ⟨as,s _ _ h1,paired_imp h2 fun _ _ z=>z.same s⟩
theorem bows_upd{H:Hp}{l f:Addr}{ps:List Bw}{xs ys:List V}(h:BowsAt H f ps)(hl:H l=some (.lst xs))(ne:f≠l):BowsAt (upd H l (.lst ys)) f ps:=by
 obtain⟨as,h1,h2⟩:=h
 refine⟨as,by rw [upd_ne ne];exact h1,paired_imp h2 fun a p z=>?_⟩
 have z':H a=some (.tup [.int p.1,.int p.2]):=z
 show upd _ _ _ a=_
 rw [upd_ne (ne_of z' hl (by intro q;cases q))];exact z'
theorem bows_copy{H:Hp}{l hd:Addr}{as:List Addr}{ps:List Bw}(h2:Paired (tupAt H) as ps)(hn:H hd=none):BowsAt (upd H hd (.lst (as.map V.ref))) hd ps:=
 ⟨as,upd_same,paired_imp h2 fun a p z=>by
  have z':H a=some (.tup [.int p.1,.int p.2]):=z
  show upd _ _ _ a=_
  rw [upd_ne (ne_of_none z' hn)];exact z'⟩
theorem BowsAt.get{H:Hp}{l:Addr}{ps:List Bw}(h:BowsAt H l ps):∃ as:List Addr,H l=some (.lst (as.map V.ref))/\as.length=ps.length/\∀ (i:Nat) x,(as.map V.ref)[i]? = some x->∃ a p,x=.ref a/\ps[i]? = some p/\tupAt H a p:=by
 obtain⟨as,h1,h2⟩:=h
 refine⟨as,h1,Paired.length h2,fun i x hx=>?_⟩
 rw [List.getElem?_map] at hx
 cases e:as[i]? with
 | none=>rw [e] at hx;cases hx
 | some a=>
  rw [e] at hx
  obtain⟨p,hp,ht⟩:=paired_get h2 e
  exact⟨a,p,(Option.some.inj hx).symm,hp,ht⟩
def crossZ(p q:Bw):Bool:=decide (p.1<q.1)&&(decide (q.1<p.2)&&decide (p.2<q.2))
def spCell(K:PySem.W.Frag):Sp:=fun vs H Q _=>∃ (a:Addr) (ns:List Int) (k:Nat),vs=[.ref a,.int k]/\SqL K H a (ns.map V.int)/\Q (.int (ns.getD k 0)) H
def mixZ(a k:Int):Int:=(a % 10 ^ 20+17 * k+k * k * k+5) * 48271 % 1000003 * 69621 % 999983
def spMix:Sp:=fun vs H Q _=>∃ a k:Int,vs=[.int a,.int k]/\0<=k/\k<=1000/\Q (.int (mixZ a k)) H
def spCrossing:Sp:=fun vs H Q _=>∃ l ps,vs=[.ref l]/\BowsAt H l ps/\((∀ p∈ps,∀ q∈ps,crossZ p q=false)->Q .non H) ∧
 ∀ p∈ps,∀ q∈ps,crossZ p q=true->∀ t a b H',H t=none->Same H H'->H' t=some (.tup [.ref a,.ref b])->tupAt H' a p->tupAt H' b q->Q (.ref t) H'
def spWhole (K:PySem.W.Frag):Sp:=fun vs H Q _=>∃ (x:V) (t:Value) (b c:Bool),vs=[x]/\TyOf K H x t/\PySem.W.kitOne K t (.type "int")=some b/\PySem.W.kitOne K t (.type "bool")=some c/\Q (.bl (b&&!c)) H
def spLaw(K:PySem.W.Frag):Sp:=fun vs H Q _=>∃ (a:Addr) (ns:List Int),vs=[.ref a]/\SqL K H a (ns.map V.int)/\ns.length<=63/\∀ H',Q (.bl true) H'
end Rm
namespace L2
open PySem PySem.Spec PyProof.Rows
theorem ints_are:∀ {ns:List Int} {us:List Value},Vals (ns.map V.int) us->IntsAre us ns
 | [],_,.nil=>.nil
 | n::ns,_,.cons ⟨t,e⟩ r=>by subst e;exact .cons n t (ints_are r)
theorem vals_bools:∀ {bs:List Bool} {us:List Value},Vals (bs.map V.bl) us->LSm.BoolsAre us bs
 | [],_,.nil=>.nil
 | b::bs,_,.cons r t=>by
  have e:_=Value.bool b:=r
  subst e
  exact .cons b (vals_bools t)
theorem vals_strs:∀ {ts:List Str} {us:List Value},Vals (ts.map V.str) us->∃ l:List (Str×Tok),us=strValues l/\l.map (·.1)=ts
 | [],_,.nil=>⟨[],rfl,rfl⟩
 | t::ts,_,.cons ⟨k,e⟩ r=>by
  subst e
  obtain⟨l,e1,e2⟩:=vals_strs r
  exact⟨(t,k)::l,by rw [e1];rfl,by rw [List.map_cons,e2]⟩
section
variable {X:Cx}
def rSortI(K:PySem.W.Frag):List V->Hp->VK->Prop:=fun xs H Q=>∃ (p:Addr) (ns:List Int),xs=[.ref p]/\SqL K H p (ns.map V.int)/\ns.length<64 ∧
 ∀ (l:Addr) (ms:List Int),H l=none->ms.Perm ns->ms.Pairwise (·<=·)->Q (.ref l) (upd H l (.lst (ms.map V.int)))
theorem call_sorted_ints:CallR X (.builtin "sorted") (rSortI X.K):=by
 intro pins s σ H xs us Q I r h
 obtain⟨p,ns,rfl,hq,hl,q⟩:=h
 obtain⟨u,rfl,rx⟩:=vals1 r
 cases rx
 obtain⟨its,rv,pl,hz⟩:=I.list hq
 have hi:=ints_are rv
 have hlen:its.length=ns.length:=by have:=rv.length;simpa using this.symm
 refine sorted_ints pl.isList hi (by omega) fun out ms hm hp hs=>?_
 obtain⟨c,hc⟩:=sortedAll_at s.heap its out
 have hml:ms.length=ns.length:=hp.length_eq
 exact⟨.ref (s.heap.objs.size+1),upd H (s.heap.objs.size+1) (.lst (ms.map V.int)),I.laid (t':=s.toks) (fun b o e=>sortedAll_old e) (Nat.le_succ _)
  (show ObjOk X.prog X.w _ _ _ (.lst _) from ⟨by rw [List.length_map,hml];exact Nat.le_of_lt (small1000 (by omega)),out.toList,c,vals_ints hm,by simpa using hc⟩),rfl,q _ ms (I.hok.fresh (Nat.le_succ _)) hp hs⟩
def rAll(K:PySem.W.Frag)(f:List Bool->Bool):List V->Hp->VK->Prop:=fun xs H Q=>∃ (p:Addr) (bs:List Bool),xs=[.ref p]/\SqL K H p (bs.map V.bl)/\Q (.bl (f bs)) H
theorem kept_iter'{s:Shared}{h':Heap}{o:Obj}(hk:∀ b x,b∉[s.heap.objs.size]->(s.heap.push o).get? b=some x->h'.get? b=some x):∀ b x,s.heap.get? b=some x->h'.get? b=some x:=
 fun b x e=>hk b x (fun hm=>by rw [List.mem_singleton.mp hm] at e;exact Nat.lt_irrefl _ (Heap.lt_size e)) (Heap.get?_push_of_some _ e)
theorem call_all_bl (hc:X.calm=true):CallR X (.builtin "all") (rAll X.K fun bs=>bs.all id):=by
 intro pins s σ H xs us Q I r h
 obtain⟨p,bs,rfl,hq,q⟩:=h
 obtain⟨u,rfl,rx⟩:=vals1 r
 cases rx
 obtain⟨its,rv,pl,hz⟩:=I.list hq
 have hb:=vals_bools rv
 have hl:=pl.isList
 have hlt:p<s.heap.objs.size:=by obtain⟨_,e,_⟩:=hl;exact Heap.lt_size e
 refine call_all_walk (wpAny_pyIter_list hl ?_)
 refine⟨s.heap.objs.size,[s.heap.objs.size,p],[s.heap.objs.size],its.toArray.size,_,_,fun i=>(bs[i]?).getD true,rfl,Walks.list (A:=X.A.in1) (I.ok.hd hc) _ p (Nat.ne_of_lt hlt) its.toArray,
  ⟨⟨_,Heap.get?_push_size _ rfl,rfl,rfl⟩,hl.push _⟩,fun i v s' Q' E' hP hQ=>?_,fun h' tk hk=>?_⟩
 ·obtain⟨b,e,rfl⟩:=hb.get i v (by simpa using hP)
  simp only [e,Option.getD_some] at hQ
  exact wpAny_truthy_bool hQ
 ·have e1:its.toArray.size=bs.length:=by have:=rv.length;simp at this;simp [this]
  rw [e1,LSm.range_all]
  exact⟨.bl _,H,I.kept (kept_iter' hk),rfl,q⟩
def rJoin(K:PySem.W.Frag):V->List V->Hp->VK->Prop:=fun x vs H Q=>∃ (z:Str) (p:Addr) (ts:List Str),x=.str z/\vs=[.ref p]/\SqL K H p (ts.map V.str)/\JoinOk z ts=true/\Q (.str (Txt.join z ts)) H
theorem mt_join:MtM X "str.join" (rJoin X.K):=by
 intro pins s σ H x xs v us Q I r rv h
 obtain⟨z,p,ts,rfl,rfl,hq,ok,q⟩:=h
 obtain⟨t,rfl⟩:=r
 obtain⟨u,rfl,rx⟩:=vals1 rv
 cases rx
 obtain⟨its,rv',pl,hz⟩:=I.list hq
 obtain⟨l,rfl,e⟩:=vals_strs rv'
 exact SC.join pl.isList e ok fun t' k=>⟨.str _,H,I.tok k,⟨t',rfl⟩,q⟩
end
mutual
inductive Dat (H:Hp):V->PyData->Prop
 | non:Dat H .non .none
 | bl (b:Bool):Dat H (.bl b) (.bool b)
 | int (i:Int):Dat H (.int i) (.int i)
 | str (x:Str):Dat H (.str x) (.str x)
 | tup {a:Addr} {xs:List V} {ds:List PyData}:H a=some (.tup xs)->DatL H xs ds->Dat H (.ref a) (.tuple ds)
 | lst {a:Addr} {xs:List V} {ds:List PyData}:H a=some (.lst xs)->DatL H xs ds->Dat H (.ref a) (.list ds)
inductive DatL (H:Hp):List V->List PyData->Prop
 | nil:DatL H [] []
 | cons {x:V} {xs:List V} {d:PyData} {ds:List PyData}:Dat H x d->DatL H xs ds->DatL H (x::xs) (d::ds)
end
mutual
theorem Dat.rep{K:PySem.W.Frag}{H:Hp}:∀ {x:V} {d:PyData},Dat H x d->Rep K H x d
 | _,_,.non=>.non
 | _,_,.bl b=>.bl b
 | _,_,.int i=>.int i
 | _,_,.str x=>.str x
 | _,_,.tup h r=>.tup (SqT.of h) (DatL.rep r)
 | _,_,.lst h r=>.lst (SqL.of h) (DatL.rep r)
theorem DatL.rep{K:PySem.W.Frag}{H:Hp}:∀ {xs:List V} {ds:List PyData},DatL H xs ds->RepL K H xs ds
 | _,_,.nil=>.nil
 | _,_,.cons h r=>.cons (Dat.rep h) (DatL.rep r)
end
mutual
theorem Dat.same{H H':Hp}(s:Same H H'):∀ {x:V} {d:PyData},Dat H x d->Dat H' x d
 | _,_,.non=>.non
 | _,_,.bl b=>.bl b
 | _,_,.int i=>.int i
 | _,_,.str x=>.str x
 | _,_,.tup h r=>.tup (s _ _ h) (DatL.same s r)
 | _,_,.lst h r=>.lst (s _ _ h) (DatL.same s r)
theorem DatL.same{H H':Hp}(s:Same H H'):∀ {xs:List V} {ds:List PyData},DatL H xs ds->DatL H' xs ds
 | _,_,.nil=>.nil
 | _,_,.cons h r=>.cons (Dat.same s h) (DatL.same s r)
end
theorem DatL.len{H:Hp}:∀ {xs:List V} {ds:List PyData},DatL H xs ds->xs.length=ds.length
 | _,_,.nil=>rfl
 | _,_,.cons _ r=>by simp [DatL.len r]
theorem DatL.get{H:Hp}:∀ {xs:List V} {ds:List PyData} {i:Nat} {x:V},DatL H xs ds->xs[i]? = some x->∃ d,ds[i]? = some d/\Dat H x d
 | _,_,_,_,.nil,e=>by simp at e
 | _,_,0,_,.cons h _,e=>by simp at e;subst e;exact⟨_,rfl,h⟩
 | _,_,i+1,x,.cons _ r,e=>by
  obtain⟨d,h1,h2⟩:=DatL.get (i:=i) (x:=x) r (by simpa using e)
  exact⟨d,by simpa using h1,h2⟩
def tyD:PyData->Value
 | .none=>.type "NoneType"
 | .bool _=>.type "bool"
 | .int _=>.type "int"
 | .str _=>.type "str"
 | .list _=>.type "list"
 | .tuple _=>.type "tuple"
 | .dict _=>.type "dict"
theorem Dat.ty{K:PySem.W.Frag}{H:Hp}{x:V}{d:PyData}(h:Dat H x d):TyOf K H x (tyD d):=by
 cases h with
 | non=>exact .non
 | bl b=>exact .bl b
 | int i=>exact .int i
 | str x=>exact .str x
 | tup h _=>exact .tup h
 | lst h _=>exact .lst h
def isI:PyData->Bool | .int _=>true | .bool _=>true | _=>false
def isB:PyData->Bool | .bool _=>true | _=>false
def isS:PyData->Bool | .str _=>true | _=>false
def isT:PyData->Bool | .tuple _=>true | _=>false
def isL:PyData->Bool | .list _=>true | _=>false
section
variable {K:PySem.W.Frag} {H:Hp} {x:V} {d:PyData} {Q:VK}
theorem isi_str (h:Dat H x d) (q:Q (.bl (isS d)) H):rIsi K [x,.ty "str"] H Q:=⟨x,"str",_,isS d,rfl,h.ty,by cases h<;>rfl,q⟩
theorem isi_tuple (h:Dat H x d) (q:Q (.bl (isT d)) H):rIsi K [x,.ty "tuple"] H Q:=⟨x,"tuple",_,isT d,rfl,h.ty,by cases h<;>rfl,q⟩
end
theorem ints_rep{K:PySem.W.Frag}{H:Hp}:∀ (ns:List Int),RepL K H (ns.map V.int) (ns.map PyData.int)
 | []=>.nil
 | n::ns=>.cons (.int n) (ints_rep ns)
theorem ints_eqv:∀ ms ns:List Int,PyData.eqvAll (ms.map PyData.int) (ns.map PyData.int)=decide (ms=ns)
 | [],[]=>rfl
 | [],_::_=>by simp [PyData.eqvAll]
 | _::_,[]=>by simp [PyData.eqvAll]
 | p::ps,q::qs=>by
  show (PyData.eqv (.int p) (.int q)&&PyData.eqvAll (ps.map PyData.int) (qs.map PyData.int))=_
  rw [ints_eqv ps qs]
  by_cases h1:p=q<;>by_cases h2:ps=qs<;>simp [PyData.eqv,h1,h2]
theorem ints_layAll:∀ ns:List Int,PyData.canLayAll0 (ns.map PyData.int)=true
 | []=>rfl
 | n::ns=>by
  show (PyData.canLay0 (.int n)&&PyData.canLayAll0 (ns.map PyData.int))=true
  rw [ints_layAll ns];rfl
theorem ints_depth:∀ ns:List Int,PyData.depthAll (ns.map PyData.int)=0
 | []=>rfl
 | n::ns=>by
  show max (PyData.depth (.int n)) (PyData.depthAll (ns.map PyData.int))=0
  rw [ints_depth ns];rfl
theorem eqL_ints{K:PySem.W.Frag}{H:Hp}{a b:Addr}{ms ns:List Int}{Q:VK}(ha:SqL K H a (ms.map V.int))(hb:SqL K H b (ns.map V.int))(q:Q (.bl (decide (ms=ns))) H):rEqD K false (.ref a) (.ref b) H Q:=by
 refine⟨.list (ms.map PyData.int),.list (ns.map PyData.int),.lst ha (ints_rep ms),.lst hb (ints_rep ns),ints_layAll ms,ints_layAll ns,?_,?_⟩
 ·refine Nat.le_trans (Nat.min_le_left _ _) ?_
  show PyData.depthAll (ms.map PyData.int)+1<=60
  rw [ints_depth];decide
 ·show Q (.bl (PyData.eqvAll (ms.map PyData.int) (ns.map PyData.int))) H
  rw [ints_eqv];exact q
theorem ints_any(n:Int)(ns:List Int):((ns.map PyData.int).any fun e=>PyData.eqv e (.int n))=decide (n∈ns):=by
 induction ns with
 | nil=>simp
 | cons m ns ih=>
  rw [List.map_cons,List.any_cons,ih]
  by_cases h1:n=m
  ·subst h1;simp [PyData.eqv]
  ·have h2:¬ m=n:=fun e=>h1 e.symm
   by_cases h3:n∈ns<;>simp [PyData.eqv,h1,h2,h3]
theorem in_ints{K:PySem.W.Frag}{H:Hp}{b:Addr}{n:Int}{ns:List Int}{neg:Bool}{Q:VK}(hb:SqL K H b (ns.map V.int)\/SqT K H b (ns.map V.int))(q:Q (.bl (if neg then !decide (n∈ns) else decide (n∈ns))) H):rInD K neg (.int n) (.ref b) H Q:=by
 refine⟨.int n,ns.map PyData.int,b,_,.int n,rfl,hb,ints_rep ns,rfl,ints_layAll ns,Nat.zero_le _,?_⟩
 rw [ints_any]
 exact q
end L2
namespace L2
open PySem PySem.Spec PyProof.Rows
def clOf(env:Env):List (Str×NameKind)->List (Str×Addr)->List (Str×Addr)
 | [],acc=>acc
 | (n,k)::r,acc=>clOf env r (if (k==NameKind.free)=true then (n,(env.cells.lookup n).getD 0)::acc else acc)
theorem closureFor_cl{scope:Scope}{env:Env}(h:∀ x∈scope.names,x.2=.free->∃ c,env.cells.lookup x.1=some c):closureFor scope env=pure (clOf env scope.names []):=by
 simp only [closureFor]
 generalize ([]:List (Str×Addr))=acc
 revert h
 generalize scope.names=l
 intro h
 induction l generalizing acc with
 | nil=>rfl
 | cons x l ih=>
  obtain⟨n,k⟩:=x
  have ih':=fun acc=>ih acc fun y hy=>h y (List.mem_cons_of_mem _ hy)
  rw [List.forIn_cons]
  cases hk:(k==NameKind.free) with
  | false=>
   simp only [Bool.false_eq_true,if_false,pure_bind]
   rw [show clOf env ((n,k)::l) acc=clOf env l acc by simp [clOf,hk]]
   exact ih' acc
  | true=>
   obtain⟨c,hc⟩:=h (n,k) List.mem_cons_self (by simpa using hk)
   have e:cellOf env n=pure c:=by unfold cellOf;rw [hc]
   simp only [if_true,e,pure_bind]
   rw [show clOf env ((n,k)::l) acc=clOf env l ((n,c)::acc) by simp [clOf,hk,hc]]
   exact ih' ((n,c)::acc)
theorem clOf_lookup{env:Env}{x:Str}{c:Addr}:∀ {l:List (Str×NameKind)} {acc:List (Str×Addr)},(∀ y∈l,y.2=.free->∃ c,env.cells.lookup y.1=some c)->(clOf env l acc).lookup x=some c->acc.lookup x=some c\/env.cells.lookup x=some c
 | [],acc,_,h=>.inl h
 | (n,k)::l,acc,hf,h=>by
  have ih:=clOf_lookup (l:=l) (acc:=if (k==NameKind.free)=true then (n,(env.cells.lookup n).getD 0)::acc else acc) (fun y hy=>hf y (List.mem_cons_of_mem _ hy)) h
  rcases ih with e | e
  ·cases hk:(k==NameKind.free) with
   | false=>rw [hk] at e;exact .inl (by simpa using e)
   | true=>
    rw [hk] at e
    simp only [if_true,List.lookup_cons] at e
    cases hx:x==n with
    | false=>rw [hx] at e;exact .inl e
    | true=>
     rw [hx] at e
     obtain⟨c',hc⟩:=hf (n,k) List.mem_cons_self (by simpa using hk)
     have hxn:x=n:=by simpa using hx
     subst hxn
     rw [hc] at e
     simp only [Option.getD_some] at e
     exact .inr (hc.trans e)
  ·exact .inr e
theorem clOf_mono{env:Env}{x:Str}:∀ {l:List (Str×NameKind)} {acc:List (Str×Addr)},(∃ c,acc.lookup x=some c)->∃ c,(clOf env l acc).lookup x=some c
 | [],acc,h=>h
 | (n,k)::l,acc,h=>by
  refine clOf_mono (l:=l) ?_
  cases hk:(k==NameKind.free) with
  | false=>simpa using h
  | true=>
   simp only [if_true,List.lookup_cons]
   cases hx:x==n with
   | false=>exact h
   | true=>exact⟨_,rfl⟩
theorem clOf_has{env:Env}{x:Str}:∀ {l:List (Str×NameKind)} {acc:List (Str×Addr)},(x,NameKind.free)∈l->∃ c,(clOf env l acc).lookup x=some c
 | [],_,h=>nomatch h
 | (n,k)::l,acc,h=>by
  rcases List.mem_cons.mp h with e | e
  ·cases e
   refine clOf_mono (l:=l) ?_
   simp
  ·exact clOf_has (l:=l) e
def rlF(env:Env)(p:Str×NameKind):Str×NameKind:=if (p.2==NameKind.free&&env.scope.kind==.function&&env.kindOf p.1==some .cell) then (p.1,NameKind.cell) else p
theorem relabel_names(scope:Scope)(env:Env):(relabel scope env).names=scope.names.map (rlF env):=by
 show scope.names.map _=_
 congr 1
theorem rlF_fst(env:Env)(p:Str×NameKind):(rlF env p).1=p.1:=by unfold rlF;split<;>rfl
theorem lookup_rlF{env:Env}{x:Str}:∀ {names:List (Str×NameKind)},(names.map (rlF env)).lookup x=(names.lookup x).map fun k=>(rlF env (x,k)).2
 | []=>rfl
 | (n,q)::r=>by
  rw [List.map_cons]
  have e:rlF env (n,q)=(n,(rlF env (n,q)).2):=Prod.ext (rlF_fst env _) rfl
  rw [e,List.lookup_cons,List.lookup_cons]
  cases hx:x==n with
  | true=>
   have hxn:x=n:=by simpa using hx
   subst hxn
   rfl
  | false=>exact lookup_rlF (names:=r)
theorem relabel_some{scope:Scope}{env:Env}{x:Str}{k:NameKind}(h:(relabel scope env).names.lookup x=some k):scope.names.lookup x=some k\/(k=.cell/\scope.names.lookup x=some .free):=by
 rw [relabel_names,lookup_rlF] at h
 cases e:scope.names.lookup x with
 | none=>rw [e] at h;cases h
 | some q=>
  rw [e] at h
  have h':(rlF env (x,q)).2=k:=Option.some.inj h
  unfold rlF at h'
  split at h'
  ·rename_i hc
   have hq:q=.free:=by
    have:=(Bool.and_eq_true _ _).mp ((Bool.and_eq_true _ _).mp hc).1
    simpa using this.1
   exact .inr ⟨h'.symm,by rw [hq]⟩
  ·exact .inl (by rw [<-h'])
theorem relabel_free{scope:Scope}{env:Env}{x:Str}(h:scope.names.lookup x=some .free):(relabel scope env).names.lookup x=some .cell\/(relabel scope env).names.lookup x=some .free:=by
 rw [relabel_names,lookup_rlF,h]
 show some (rlF env (x,.free)).2=_\/some (rlF env (x,.free)).2=_
 unfold rlF
 split
 ·exact .inl rfl
 ·exact .inr rfl
def cxC(X:Cx)(N:List Str)(scope:Scope)(C:Addr)(s:Shared)(H:Hp)(fp:List Addr)(pn:List (Addr×Obj)):Cx:=
 { X with N:=N,s₀:=s,H₀:=H,env:=compEnvC scope (clOf X.env scope.names []) C X.env,outer:=X.stack,ex:=fp,fn:=fun _=>false,pn:=pn,xe:=fun _ _=>False }
structure CScope (scope:Scope) (ns:List Str):Prop where
 kind:scope.kind=.function
 nocell:∀ y∈scope.names,y.2≠.cell
 names:∀ y∈scope.names,y.2=.local->scope.names.lookup y.1=some .local
 frees:∀ y∈scope.names,y.2=.free->y.1∈ns
inductive Caps (X:Cx) (scope:Scope):List Str->List Nat->Prop
 | nil:Caps X scope [] []
 | cons {x:Str} {i:Nat} {ns:List Str} {is:List Nat}:X.N[i]? = some x->scope.names.lookup x=some .free->(X.env.kindOf x=some .cell\/X.env.kindOf x=some .free)->Caps X scope ns is->Caps X scope (x::ns) (i::is)
theorem Caps.mem{X:Cx}{scope:Scope}{ns:List Str}{is:List Nat}{x:Str}(c:Caps X scope ns is)(h:x∈ns):X.env.kindOf x=some .cell\/X.env.kindOf x=some .free:=by
 induction c with
 | nil=>exact nomatch h
 | cons _ _ k _ ih=>
  rcases List.mem_cons.mp h with e | e
  ·subst e;exact k
  ·exact ih e
theorem Caps.len{X:Cx}{scope:Scope}{ns:List Str}{is:List Nat}(c:Caps X scope ns is):is.length=ns.length:=by
 induction c with
 | nil=>rfl
 | cons _ _ _ _ ih=>simp [ih]
theorem Caps.at_{X:Cx}{scope:Scope}{ns:List Str}{is:List Nat}(c:Caps X scope ns is){j:Nat}{x:Str}(h:ns[j]? = some x):
  ∃ i,is[j]? = some i/\X.N[i]? = some x/\scope.names.lookup x=some .free/\(X.env.kindOf x=some .cell\/X.env.kindOf x=some .free):=by
 induction c generalizing j with
 | nil=>simp at h
 | cons a b k _ ih=>
  cases j with
  | zero=>simp at h;subst h;exact⟨_,rfl,a,b,k⟩
  | succ j=>exact ih (by simpa using h)
def getJ(σ:St)(i:Nat):Option V:=(σ[i]?).join
def initC(k:Nat)(caps:List Nat)(σ:St):St:=List.replicate k none++caps.map fun i=>getJ σ i
section
variable {X:Cx} {pins:List (Addr×Obj)} {σ:St} {H:Hp} {s s4:Shared}
theorem comp_start{own ns:List Str}{caps:List Nat}{scope:Scope}{C:Addr}{fp:List Addr}(I:Inv X pins σ H s)(S:CScope scope ns)(cp:Caps X scope ns caps)(hf:∀ b∈fp,FpOk X pins H b)
  (hfl:∀ b∈fp,b<s.heap.objs.size) (hC:s.heap.objs.size<=C) (os:s4.os=s.os) (gens:s4.gens=s.gens) (k:∀ b o,s.heap.get? b=some o->s4.heap.get? b=some o) {m:Str->Option Value} (hn:s4.heap.Ns C m) :
  Inv (cxC X (own++ns) scope C s H fp (X.pn++pins)) [] (initC own.length caps σ) H s4:=by
 have cells:∀ x c,(clOf X.env scope.names []).lookup x=some c->X.env.cells.lookup x=some c:=fun x c e=>by
  rcases clOf_lookup (fun y hy hfr=>I.ok.has y.1 (cp.mem (S.frees y hy hfr))) e with z | z
  ·simp at z
  ·exact z
 have neL:C≠X.env.locals:=Nat.ne_of_gt (Nat.lt_of_lt_of_le I.lt hC)
 have inFs:∀ b,b∈frs X.stack->b=X.env.locals\/b∈X.fs:=fun b hb=>List.mem_cons.mp (I.stkSub b hb)
 have nst:∀ b,b≠X.env.locals->b∉X.fs->b∉frs X.stack:=fun b h1 h2 z=>(inFs b z).elim h1 h2
 have cle:∀ x c,X.env.cells.lookup x=some c->c<s.heap.objs.size:=fun x c e=>by obtain⟨v,q⟩:=I.cell x c e;exact q.lt
 refine⟨⟨I.ok.mod,S.kind,I.ok.glob,I.ok.blt,hC,fun x y c h1 h2=>I.ok.inj x y c (cells _ _ h1) (cells _ _ h2),fun x hx=>?_,(fun x c h=>nomatch h),I.ok.hd,I.ok.frames,.inl rfl,fun b hb=>⟨fun z=>?_,fun x c e=>(hf b hb).2.2.2.2.1 x c (cells _ _ e)⟩,
   I.bs,Nat.le_trans I.ok.bsz I.sz,fun b o e hb=>?_,fun b hb=>nst b (hf b hb).2.1 (hf b hb).2.2.1,I.stack,I.stkFree⟩,
  os,by rw [gens];exact I.bare,Un.kept k,⟨m,hn,fun i x v e1 e2 e3=>?_⟩,fun x c e=>?_,?_,fun x c e=>I.freeC x c (cells _ _ e),fun p hp=>?_,I.hok.kept k,?_⟩
 ·have hx':(relabel scope X.env).names.lookup x=some .cell\/(relabel scope X.env).names.lookup x=some .free:=hx
  have hfree:scope.names.lookup x=some .free:=by
   rcases hx' with z | z
   ·rcases relabel_some z with q | q
    ·exact absurd rfl (S.nocell _ (PySem.mem_of_lookup q))
    ·exact q.2
   ·rcases relabel_some z with q | q
    ·exact q
    ·exact absurd q.1 (by decide)
  exact clOf_has (PySem.mem_of_lookup hfree)
 ·exact absurd (Nat.lt_of_lt_of_le (hfl b hb) hC) (by rw [show b=C from z];exact Nat.lt_irrefl _)
 ·obtain⟨f0,f1,f2,f3,f4,f5⟩:=hf b hb
  rcases f3 with z | z
  ·exact I.ok.noex b o e z
  ·exact absurd (Nat.lt_of_lt_of_le (Heap.lt_size e) (Nat.le_trans I.ok.bsz z)) (Nat.lt_irrefl _)
 ·have e2':(List.replicate own.length none++caps.map fun i=>getJ σ i)[i]? = some (some v):=e2
  have e1':(own++ns)[i]? = some x:=e1
  by_cases hi:i<own.length
  ·rw [List.getElem?_append_left (by simpa using hi),List.getElem?_replicate,if_pos hi] at e2'
   cases e2'
  ·rw [List.getElem?_append_right (by simpa using hi),List.length_replicate,List.getElem?_map] at e2'
   rw [List.getElem?_append_right (by omega)] at e1'
   obtain⟨i',h1,h2,h3,h4⟩:=cp.at_ e1'
   rw [h1] at e2'
   have e4:(σ[i']?).join=some v:=Option.some.inj e2'
   have e5:σ[i']? = some (some v):=by
    cases q:σ[i']? with
    | none=>rw [q] at e4;cases e4
    | some w'=>rw [q] at e4;rw [show w'=some v from e4]
   obtain⟨m',hn',hl'⟩:=I.loc
   have vis:Vis X.env.scope x:=h4.elim (fun z=>.inr (.inl z)) fun z=>.inr (.inr z)
   obtain⟨u,r,l⟩:=hl' i' x v h2 e5 vis
   refine⟨u,r,.inr ⟨relabel_free h3,?_⟩⟩
   obtain⟨c,hc⟩:=clOf_has (env:=X.env) (acc:=[]) (PySem.mem_of_lookup h3)
   rcases l with ⟨z,_⟩ | ⟨_,c',e6,z⟩
   ·rcases h4 with y | y<;>· rw [y] at z;cases z
   ·have:=cells _ _ hc
    rw [e6] at this
    cases this
    obtain⟨o,ho,hd⟩:=z
    exact⟨_,hc,o,k _ _ ho,hd⟩
 ·obtain⟨v,o,ho,hd⟩:=I.cell x c (cells _ _ e)
  exact⟨v,o,k _ _ ho,hd⟩
 ·exact I.hok.fresh hC
 ·have hp':p∈X.pn++pins:=by simpa [cxC] using hp
  obtain⟨a1,a2,a3,a4,a5⟩:=I.pin p hp'
  exact⟨k _ _ a1,a2,Nat.ne_of_lt (Nat.lt_of_lt_of_le (Heap.lt_size a1) hC),nst _ a3 a4,a5⟩
 ·show (initC own.length caps σ).length=(own++ns).length
  simp [initC,cp.len]
end
def PF(X:Cx)(ifs:List Expr)(t:TT):Prop:=
 ∀ (pins:List (Addr×Obj)) (s:Shared) (σ:St) (H:Hp) (Q:Bool->Hp->Prop),Inv X pins σ H s->t σ H Q →
  wpAny (model X.prog X.w) X.A (forIn ifs true fun c r=>if r=true then do let ok <-isTrue c X.env (eval c X.env);pure (ForInStep.yield ok) else pure (ForInStep.yield r)) (TP X pins σ Q) X.xe s
def tNoIf:TT:=fun _ H q=>q true H
theorem pf_nil{X:Cx}:PF X [] tNoIf:=fun _ _ _ H _ I h=>wpAny_pure ⟨H,I,h⟩
theorem pf_one{X:Cx}{c:Expr}{t:TT}(h:PT X c t):PF X [c] t:=by
 intro pins s σ H Q I hq
 rw [List.forIn_cons]
 simp only [if_true,bind_assoc,pure_bind]
 refine wpAny_bind (thn (h pins s σ H Q I hq) fun b s1 q=>?_)
 exact wpAny_pure q
def CompJ(J:It)(g:TG)(tf:TT)(te:TE)(Q:VK)(σ:St)(H1:Hp):Prop:=∃ W:Nat->Nat->List V->St->Hp->Prop,(∃ m,W 0 m [] σ H1)/\∀ i m ys σ H,W i m ys σ H →
 (J.stop i H/\ys.length<=sizeLine/\∀ p,H p=none->Q (.ref p) (upd H p (.lst ys))) ∨
 (J.go i H/\ys.length<sizeLine/\∀ x H',J.yld i H x H'->g x σ H' fun σ2 H2=>tf σ2 H2 fun b H3=>
  if b=true then te σ2 H3 fun y H4=>∃ m',m'<m/\W (i+1) m' (ys++[y]) σ2 H4 else ∃ m',m'<m/\W (i+1) m' ys σ2 H3)
section
variable {X:Cx} {pins:List (Addr×Obj)} {σ:St} {H:Hp} {s:Shared}
theorem comp_turn_one {prog : Program} {w : World} {A : Around} {R : Result → Shared → Prop} {s : Shared} {elt target iter : Expr} {ifs : List Expr} {scope : Scope} {pos : Pos} {it acc : Value} {env : Env} (I : Nat → Shared → Prop)
  (turn : ∀ n s, I n s → wpAny (model prog w) A (pyNext it) (fun r s₁ => match r with
   | none => R (.ok .next) s₁
   | some v => wpAny (model prog w) A (letOwnedTupleGo target it v) (fun _ s₁ => wpAny (model prog w) A (assign target env v) (fun _ s₂ =>
     wpAny (model prog w) A (forIn ifs true fun c r => if r = true then do let ok ← isTrue c env (eval c env); pure (ForInStep.yield ok) else pure (ForInStep.yield r)) (fun ok s₃ =>
      if ok = true then wpAny (model prog w) A (eval elt env) (fun x s₄ =>
       wpAny (model prog w) A (call (.builtin "list.append") [acc, x]) (fun _ s₅ => ∃ m, m < n ∧ I m s₅) (notedBy (model prog w) A env fun e s' => R (.error e) s') s₄) (notedBy (model prog w) A env fun e s' => R (.error e) s') s₃
      else ∃ m, m < n ∧ I m s₃) (notedBy (model prog w) A env fun e s' => R (.error e) s') s₂) (notedBy (model prog w) A env fun e s' => R (.error e) s') s₁) (notedBy (model prog w) A env fun e s' => R (.error e) s') s₁) (notedBy (model prog w) A env fun e s' => R (.error e) s') s)
  (n : Nat) (h : I n s) : codeAny (model prog w) A (.compLoop (.ListComp elt [⟨target, iter, ifs, 0⟩] scope pos) 0 it acc env) R s := by
 refine codeAny_loop rfl I (fun n s hI => ?_) n h
 show wpAny _ A ((compTurn (.ListComp elt [⟨target, iter, ifs, 0⟩] scope pos) 0 it acc env).onRaise (fun x => do noteFrame x env; theTreesLotGoes x)) _ _ s
 refine wpAny_noted ?_
 rw [compTurn_list]
 refine wpAny_bind (wpAny_standAt (wpAny_bind (wpAny_mono (turn n s hI) (fun r s₁ h₁ => ?_) fun _ _ h' => h')))
 cases r with
 | none => exact wpAny_pure h₁
 | some v =>
  refine wpAny_bind (wpAny_mono h₁ (fun _ s₁ h₁ => ?_) fun _ _ h' => h')
  refine wpAny_bind (wpAny_mono h₁ (fun _ s₂ h₂ => wpAny_bind (wpAny_mono h₂ (fun ok s₃ h₃ => ?_) fun _ _ h' => h')) fun _ _ h' => h')
  cases ok with
  | false => exact wpAny_pure ⟨rfl, h₃⟩
  | true =>
   exact wpAny_bind (wpAny_bind (wpAny_mono h₃ (fun x s₄ h₄ => wpAny_bind (wpAny_mono h₄ (fun _ s₅ h₅ => wpAny_pure (wpAny_pure ⟨rfl, h₅⟩)) fun _ _ h' => h')) fun _ _ h' => h'))
theorem comp_run{own ns:List Str}{caps:List Nat}{elt tg iter:Expr}{ifs:List Expr}{scope:Scope}{pos:Pos}{it:Addr}{fp:List Addr}{tn:Nat->Heap->Prop}{J:It}{g:TG}{tf:TT}{te:TE}{Q:VK}{E:Value->Shared->Prop}{RR:Value->Addr->Result->Shared->Prop}
  (hc:X.calm=true) (S:CScope scope ns) (cp:Caps X scope ns caps)
  (hg:∀ C s H fp pn,PG (cxC X (own++ns) scope C s H fp pn) tg g) (ht:∀ C s H fp pn,PF (cxC X (own++ns) scope C s H fp pn) ifs tf) (he:∀ C s H fp pn,PE (cxC X (own++ns) scope C s H fp pn) elt te)
  (I:Inv X pins σ H s) (T:Turn X.prog X.w X.K tg J fp it tn) (st:tn 0 s.heap) (hf:∀ b∈fp,FpOk X pins H b) (hJ:CompJ J g tf te Q (initC own.length caps σ) H)
  (fin:∀ D C m s' H' ys,D≠C->s'.heap.Ns C m->FpOk X pins (upd H' D (.lst ys)) C->Inv X pins σ (upd H' D (.lst ys)) s'->Q (.ref D) (upd H' D (.lst ys))->RR (.ref D) C (.ok .next) s') :
  wpAny (model X.prog X.w) X.A (newList []) (fun acc s₃=>wpAny (model X.prog X.w) X.A (newFunctionEnv scope X.env.globals (clOf X.env scope.names []) [] X.env.qual none .none (some X.env)) (fun cenv s₄=>
   codeAny (model X.prog X.w) X.A (.compStart (.ListComp elt [⟨tg,iter,ifs,0⟩] scope pos) 0 (.ref it) acc { cenv with scope:=relabel scope X.env }) (RR acc cenv.locals) s₄) E s₃) E s:=by
 refine wpAny_newObj_type (wpAny_newFunctionEnv S.nocell (by intro y hy;simp at hy) (fun h₁ hns₁ hsb₁=>?_) S.kind)
 dsimp only at hns₁ hsb₁ ⊢
 generalize hH2:s.heap.push { cls:=.type "list",dict:=none,data:=.seq ([]:List Value).toArray }=H2 at hns₁ hsb₁ ⊢
 have hC:H2.objs.size=s.heap.objs.size+1:=by rw [<-hH2,Heap.size_push]
 have hDC:s.heap.objs.size≠H2.objs.size:=by rw [hC];exact Nat.ne_of_lt (Nat.lt_succ_self _)
 have hCle:s.heap.objs.size<=H2.objs.size:=by rw [hC];exact Nat.le_succ _
 have old:∀ b o,s.heap.get? b=some o->h₁.get? b=some o:=fun b o e=>hsb₁.extBut b o (by rw [hC];exact Nat.ne_of_lt (Nat.lt_succ_of_lt (Heap.lt_size e))) (Heap.get?_push_of_some _ (hH2▸Heap.get?_push_of_some _ e))
 have hacc:h₁.PlainList s.heap.objs.size #[]:=⟨_,hsb₁.extBut _ _ hDC (Heap.get?_push_of_some _ (hH2▸Heap.get?_push_size _ rfl))⟩
 have hfl:∀ b∈fp,b<s.heap.objs.size:=fun b hb=>by obtain⟨o,e,_⟩:=T.obj _ _ st b hb;exact Heap.lt_size e
 generalize hD:s.heap.objs.size=D at hDC hacc ⊢
 generalize hCe:H2.objs.size=C at hns₁ hsb₁ hDC hCle hC ⊢
 have hDle:s.heap.objs.size<=D:=by rw [hD];exact Nat.le_refl _
 have hCle':s.heap.objs.size<=C:=by rw [hD];rw [hD] at hCle;exact hCle
 have I₁:Inv (cxC X (own++ns) scope C s H fp (X.pn++pins)) [] (initC own.length caps σ) H { s with heap:=h₁,toks:=s.toks+([]:List (Str×Value)).length }:=
  comp_start I S cp hf hfl hCle' rfl rfl old hns₁
 have st₁:tn 0 h₁:=T.keep _ _ _ st fun b _ o e=>old b o e
 generalize hY:cxC X (own++ns) scope C s H fp (X.pn++pins)=Y at I₁
 have hgY:PG Y tg g:=hY▸hg C s H fp (X.pn++pins)
 have htY:PF Y ifs tf:=hY▸ht C s H fp (X.pn++pins)
 have heY:PE Y elt te:=hY▸he C s H fp (X.pn++pins)
 have yP:Y.prog=X.prog:=by rw [<-hY];rfl
 have yW:Y.w=X.w:=by rw [<-hY];rfl
 have yK:Y.K=X.K:=by rw [<-hY];rfl
 have yA:Y.A=X.A:=by rw [<-hY];rfl
 have yC:Y.calm=true:=by rw [<-hY];exact hc
 have yE:Y.env=compEnvC scope (clOf X.env scope.names []) C X.env:=by rw [<-hY];rfl
 have yX:Y.xe=fun _ _=>False:=by rw [<-hY];rfl
 have yF:Y.fs=frs X.stack:=by rw [<-hY];rfl
 have yQ:Y.pn=X.pn++pins:=by rw [<-hY];rfl
 have yI:Y.ex=fp:=by rw [<-hY];rfl
 have yS:Y.s₀=s:=by rw [<-hY];rfl
 have yH:Y.H₀=H:=by rw [<-hY];rfl
 have cells:∀ x c,Y.env.cells.lookup x=some c->X.env.cells.lookup x=some c:=fun x c e=>by
  rw [yE] at e
  rcases clOf_lookup (fun y hy hfr=>I.ok.has y.1 (cp.mem (S.frees y hy hfr))) (show (clOf X.env scope.names []).lookup x=some c from e) with z | z
  ·simp at z
  ·exact z
 have nst:∀ b,b≠X.env.locals->b∉X.fs->b∉Y.fs:=fun b h1 h2 z=>by
  rw [yF] at z
  exact (List.mem_cons.mp (I.stkSub b z)).elim h1 h2
 have fpY:∀ {H':Hp},(∀ b∈fp,H' b=none)->∀ b∈fp,FpOk Y [] H' b:=fun {H'} hn b hb=>by
  obtain⟨f0,f1,f2,f3,f4,f5⟩:=hf b hb
  refine⟨hn b hb,?_,nst b f1 f2,.inl (by rw [yI];exact hb),fun x c e=>f4 x c (cells x c e),fun p hp=>f5 p (by simpa [yQ] using hp)⟩
  rw [yE]
  exact Nat.ne_of_lt (Nat.lt_of_lt_of_le (hfl b hb) hCle')
 have fpD:∀ {H':Hp},H' D=none->FpOk Y [] H' D:=fun {H'} hn=>by
  obtain⟨f0,f1,f2,f3,f4,f5⟩:=I.fpOk (H':=H') hDle hn
  refine⟨hn,by rw [yE];exact hDC,nst D f1 f2,.inr (by rw [yS];exact hDle),fun x c e=>f4 x c (cells x c e),fun p hp=>f5 p (by simpa [yQ] using hp)⟩
 have hDf:D∉fp:=fun z=>Nat.lt_irrefl _ (Nat.lt_of_lt_of_le (hfl D z) hDle)
 have objD:∀ {h:Heap} {us:List Value},h.PlainList D us.toArray->∃ o,h.get? D=some o/\∀ v,o.data≠.cell v:=fun {h us} ⟨n,e⟩=>⟨_,e,fun v z=>by cases z⟩
 have noErr:∀ {α:Type} {t:Sem α} {Qt:α->Shared->Prop} {sx:Shared} {E':Value->Shared->Prop},wpAny (model Y.prog Y.w) Y.A t Qt Y.xe sx->wpAny (model X.prog X.w) X.A t Qt E' sx:=fun {α t Qt sx E'} h=>by
  rw [yP,yW,yA,yX] at h
  exact wpAny_mono h (fun _ _ q=>q) fun _ _ f=>f.elim
 obtain⟨W,⟨m0,w0⟩,turn⟩:=hJ
 have TY:Turn Y.prog Y.w Y.K tg J fp it tn:=by rw [yP,yW,yK];exact T
 have loop:∀ s₃:Shared,s₃={ s with heap:=h₁,toks:=s.toks+([]:List (Str×Value)).length } →
   codeAny (model X.prog X.w) X.A (.compLoop (.ListComp elt [⟨tg,iter,ifs,0⟩] scope pos) 0 (.ref it) (.ref D) (compEnvC scope (clOf X.env scope.names []) C X.env)) (RR (.ref D) C) s₃:=by
  rintro s₃ rfl
  refine comp_turn_one (fun n s'=>∃ i ys us σ' H',Inv Y [] σ' H' s'/\tn i s'.heap/\(∀ b∈fp,H' b=none)/\H' D=none/\s'.heap.PlainList D us.toArray/\Vals ys us/\W i n ys σ' H') ?_ m0
   ⟨0,[],[],_,H,I₁,st₁,fun b hb=>(hf b hb).1,I.hok.fresh hDle,hacc,.nil,w0⟩
  rintro n s3 ⟨i,ys,us,σ3,H3,I3,st3,fr3,hD3,pl3,v3,w3⟩
  have fD3:∀ b∈[D],FpOk Y [] H3 b:=fun b hb=>by
   have e:b=D:=by simpa using hb
   subst e
   exact fpD hD3
  have I3':Inv Y ([]++pinsAt [D] s3.heap) σ3 H3 s3:=I3.pinned fD3 fun b hb=>by
   have e:b=D:=by simpa using hb
   subst e
   exact objD pl3
  rw [List.nil_append] at I3'
  have fpY':∀ {H':Hp},(∀ b∈fp,H' b=none)->∀ b∈fp,FpOk Y (pinsAt [D] s3.heap) H' b:=fun {H'} hn b hb=>by
   obtain⟨f0,f1,f2,f3,f4,f5⟩:=fpY hn b hb
   refine⟨f0,f1,f2,f3,f4,fun p hp=>?_⟩
   rcases List.mem_append.mp hp with z | z
   ·exact f5 p (by simpa using z)
   ·have e:p.1=D:=by simpa using (of_pinsAt z).1
    exact fun q=>hDf (by rw [<-e,q];exact hb)
  obtain⟨oD,eD,cD⟩:=objD pl3
  have keepD:∀ {σ':St} {H':Hp} {s':Shared} {pl:List (Addr×Obj)},Inv Y (pinsAt [D] s3.heap++pl) σ' H' s'->s'.heap.PlainList D us.toArray/\H' D=none:=fun {σ' H' s' pl} I'=>by
   have:=I'.pin (D,oD) (List.mem_append_right _ (List.mem_append_left _ (mem_pinsAt (by simp) eD)))
   refine⟨?_,this.2.1⟩
   obtain⟨k,e⟩:=pl3
   rw [e] at eD
   cases eD
   exact⟨k,this.1⟩
  rcases turn i n ys σ3 H3 w3 with ⟨stop,hlen,qn⟩ | ⟨go,hlen,step⟩
  ·refine noErr (thn (TY.done Y rfl rfl rfl yC i _ s3 σ3 H3 Y.xe I3' (fpY' fr3) st3 stop) fun r s4 ⟨hr,I4⟩=>?_)
   subst hr
   obtain⟨pl4,hD4⟩:=keepD (pl:=[]) (by rw [List.append_nil];exact I4)
   have hun:Un (frs X.stack) fp H H3 s.heap s4.heap:=by have:=I4.base;rw [yF,yI,yS,yH] at this;exact this
   have hok:HOk X.prog X.w H3 s4.heap:=by have:=I4.hok;rw [yP,yW] at this;exact this
   obtain⟨m4,hn4,_⟩:=I4.loc
   rw [yE] at hn4
   have hC4:H3 C=none:=by have:=I4.free;rw [yE] at this;exact this
   have ne:∀ b u,H3 b=some u->b≠D:=fun b u e z=>by rw [z,hD4] at e;cases e
   refine fin D C m4 s4 H3 ys hDC hn4 (I.fpOk hCle' (by rw [upd_ne (Ne.symm hDC)];exact hC4)) (I.call' (ch:=fp) ?_ ?_ ?_ I4.bare ?_) (qn D hD4)
   ·have:=I4.os;rw [yS] at this;exact this
   ·exact⟨hun.keep,hun.slot,fun b o e n hx=>by rw [upd_ne (fun z=>by rw [z] at e;exact absurd (Heap.lt_size e) (Nat.not_lt.mpr hDle))];exact hun.free b o e n hx,hun.there,
     fun b xs e=>by have:=hun.tups b xs e;rw [upd_ne (ne _ _ this)];exact this,fun b o u e=>by have:=hun.frzs b o u e;rw [upd_ne (ne _ _ this)];exact this,
     fun b ps e=>by obtain⟨more,q⟩:=hun.tbls b ps e;exact⟨more,by rw [upd_ne (ne _ _ q)];exact q⟩⟩
   ·intro b u e
    by_cases hb:b=D
    ·subst hb
     rw [upd_same] at e
     cases e
     obtain⟨k,e4⟩:=pl4
     exact⟨hlen,us,k,v3,e4⟩
    ·rw [upd_ne hb] at e
     exact (hok b u e).stay (fun c v _ q=>q) (fun c q=>by rw [upd_ne (ne _ _ q)];exact q) fun c xs q=>by rw [upd_ne (ne _ _ q)];exact q
   ·intro b hb
    obtain⟨f0,f1,f2,f3,f4,f5⟩:=hf b hb
    exact⟨f3,f1,f4,f5⟩
  ·refine noErr (thn (TY.item Y rfl rfl rfl yC i _ s3 σ3 H3 Y.xe I3' (fpY' fr3) st3 go) fun r s4 ⟨u,hr,h4⟩=>?_)
   subst hr
   refine noErr (thn h4 fun _ s5 ⟨x,H5,I5,r5,y5,st5,fr5⟩=>?_)
   have I5':=I5.pinned (fpY' fr5) (T.obj _ _ st5)
   rw [<-yE]
   refine noErr (thn (hgY _ s5 σ3 H5 x u _ I5' r5 (step x H5 y5)) fun _ s6 ⟨σ6,H6,I6,q6⟩=>?_)
   refine noErr (thn (htY _ s6 σ6 H6 _ I6 q6) fun ok s7 ⟨H7,I7,q7⟩=>?_)
   have fpK:∀ {σ':St} {H':Hp} {s':Shared},Inv Y (pinsAt [D] s3.heap++pinsAt fp s5.heap) σ' H' s'->tn (i+1) s'.heap/\∀ b∈fp,H' b=none:=fun {σ' H' s'} I'=>
    ⟨T.keep _ _ _ st5 fun b hb o e=>(I'.pin (b,o) (List.mem_append_right _ (List.mem_append_right _ (mem_pinsAt hb e)))).1,fun b hb=>by
     obtain⟨o,e,_⟩:=T.obj _ _ st5 b hb
     exact (I'.pin (b,o) (List.mem_append_right _ (List.mem_append_right _ (mem_pinsAt hb e)))).2.1⟩
   cases ok with
   | false=>
    rw [if_neg Bool.false_ne_true] at q7 ⊢
    obtain⟨m',hm,w7⟩:=q7
    obtain⟨pl7,hD7⟩:=keepD I7
    obtain⟨st7,fr7⟩:=fpK I7
    exact⟨m',hm,i+1,ys,us,σ6,H7,I7.pins_of (fun p hp=>nomatch hp),st7,fr7,hD7,pl7,v3,w7⟩
   | true=>
    rw [if_pos rfl] at q7 ⊢
    refine noErr (thn (heY _ s7 σ6 H7 _ I7 q7) fun y s8 ⟨yv,H8,I8,r8,m',hm,w8⟩=>?_)
    obtain⟨pl8,hD8⟩:=keepD I8
    obtain⟨st8,fr8⟩:=fpK I8
    have hul:us.length=ys.length:=v3.length.symm
    refine wpAny_list_append_plain (hsz:=by rw [List.size_toArray,hul];exact Nat.le_of_lt hlen) pl8 fun h9 pl9 sb9=>?_
    obtain⟨d0,d1,d2,d3,d4,d5⟩:=fpD hD8
    refine⟨m',hm,i+1,ys++[yv],us++[y],σ6,H8,?_,?_,fr8,hD8,by simpa using pl9,v3.append (.cons r8 .nil),w8⟩
    ·exact (I8.pins_of (pins':=[]) fun p hp=>nomatch hp).turned (t':=s8.toks) (fun b o hb e=>(sb9.2 b hb).trans e) hD8 d1 d3 d4 d5
    ·exact T.keep _ _ _ st8 fun b hb o e=>(sb9.2 b (fun z=>hDf (z▸hb))).trans e
 exact codeAny_compStart_list (loop _ rfl) (T.self _ 0 _ _ _ st₁ (loop _ rfl))
def tComp(k:Nat)(caps:List Nat)(wi:TI)(g:TG)(tf:TT)(te:TE):TE:=fun σ H Q=>wi σ H fun J H1=>CompJ J g tf te Q (initC k caps σ) H1
theorem Caps.cl{scope:Scope}{ns:List Str}{caps:List Nat}(I:Inv X pins σ H s)(S:CScope scope ns)(cp:Caps X scope ns caps):closureFor scope X.env=pure (clOf X.env scope.names []):=
 closureFor_cl fun y hy hfr=>I.ok.has y.1 (cp.mem (S.frees y hy hfr))
theorem pe_comp{own ns:List Str}{caps:List Nat}{elt tg iter:Expr}{ifs:List Expr}{scope:Scope}{pos:Pos}{wi:TI}{g:TG}{tf:TT}{te:TE}(hc:X.calm=true)(S:CScope scope ns)(cp:Caps X scope ns caps)(hi:PI X tg iter wi)
  (hg:∀ C s H fp pn,PG (cxC X (own++ns) scope C s H fp pn) tg g) (ht:∀ C s H fp pn,PF (cxC X (own++ns) scope C s H fp pn) ifs tf) (he:∀ C s H fp pn,PE (cxC X (own++ns) scope C s H fp pn) elt te)
  (hs:∀ x,foldedSetIterable iter X.env x=pure x:=by intro _;rfl):PE X (.ListComp elt [⟨tg,iter,ifs,0⟩] scope pos) (tComp own.length caps wi g tf te):=by
 intro pins s σ H Q I h
 rw [eval_ListComp]
 refine wpAny_comprehension_free (use:=none) rfl hs (cp.cl I S) S.kind S.names (thn (hi pins s σ H _ I h) fun v s1 h1=>thn h1 fun itv s2 h2=>?_)
 obtain⟨it,fp,tn,J,H2,e,I2,T,st2,f2,hJ⟩:=h2
 subst e
 refine comp_run hc S cp hg ht he I2 T st2 f2 hJ (RR:=fun acc C=>compPost (model X.prog X.w) X.A X.xe none (EP X pins σ Q) acc C) fun D C m s' H' ys hDC hn fC I' q=>?_
 refine⟨m,hn,fun h' hs'=>⟨.ref D,_,?_,rfl,q⟩⟩
 obtain⟨f0,f1,f2,f3,f4,f5⟩:=fC
 exact I'.turned (t':=s'.toks) (fun b o hb e=>(hs'.2 b hb).trans e) f0 f1 f3 f4 f5
theorem ps_setC{i:Nat}{x:Str}{own ns:List Str}{caps:List Nat}{elt tg iter:Expr}{ifs:List Expr}{scope:Scope}{pos pos' spos:Pos}{wi:TI}{g:TG}{tf:TT}{te:TE}(hN:X.N.Nodup)(hi:X.N[i]? = some x)(hx:Loc X.env.scope x)(hc:X.calm=true)(S:CScope scope ns)(cp:Caps X scope ns caps)(hit:PI X tg iter wi)
  (hg:∀ C s H fp pn,PG (cxC X (own++ns) scope C s H fp pn) tg g) (ht:∀ C s H fp pn,PF (cxC X (own++ns) scope C s H fp pn) ifs tf) (he:∀ C s H fp pn,PE (cxC X (own++ns) scope C s H fp pn) elt te)
  (hs:∀ x,foldedSetIterable iter X.env x=pure x:=by intro _;rfl) (hsw:swapsWith (.ListComp elt [⟨tg,iter,ifs,0⟩] scope pos) (some (.Name x pos')) spos.line X.env=pure true:=by rfl)
  (hf:X.fn x=true\/X.env.scope.names.lookup x=some .local:=by first | exact .inl rfl | exact .inr rfl | assumption) :
  PS X (.Assign [.Name x pos'] (.ListComp elt [⟨tg,iter,ifs,0⟩] scope pos) spos) (tAsg (tComp own.length caps wi g tf te) (gName i)):=by
 intro pins s σ H D I h
 rw [exec_Assign_Name_used _ _ _ _ hsw]
 refine wpAny_bind (wpAny_standAt (wpAny_bind ?_))
 show wpAny _ X.A (do let _ <-comprehension (.ListComp elt [⟨tg,iter,ifs,0⟩] scope pos) scope X.env _ (newList []) false (eval iter X.env) (some (assign (.Name x pos') X.env))) _ _ s
 refine wpAny_bind (wpAny_mono (wpAny_comprehension_free (use:=some (assign (.Name x pos') X.env)) (Q:=fun _ s'=>SP X pins D .next s') rfl hs (cp.cl I S) S.kind S.names
  (thn (hit pins s σ H _ I h) fun v s1 h1=>thn h1 fun itv s2 h2=>?_)) (fun _ s' hq=>wpAny_pure (wpAny_pure hq)) fun _ _ e=>e)
 obtain⟨it,fp,tn,J,H2,e,I2,T,st2,f2,hJ⟩:=h2
 subst e
 refine comp_run hc S cp hg ht he I2 T st2 f2 hJ (RR:=fun acc C=>compPost (model X.prog X.w) X.A X.xe (some (assign (.Name x pos') X.env)) (fun _ s'=>SP X pins D .next s') acc C) fun L C m s' H' ys hDC hn fC I' q=>?_
 show wpAny _ X.A (assign (.Name x pos') X.env (.ref L)) _ _ _
 refine wpAny_assign_Name (store_ok2 I' hN hi hx (v:=.ref L) (u:=.ref L) rfl (fun s'' I'' ⟨a,sb,ha⟩=>?_) hf)
 obtain⟨f0,f1,f2,f3,f4,f5⟩:=fC
 have hCa:C≠a:=by
  rcases ha with z | z
  ·rw [z];exact f1
  ·exact fun y=>f4 _ _ z y.symm
 exact⟨m,hn.sameBut sb hCa,fun h' hs'=>⟨_,_,I''.turned (t':=s''.toks) (fun b o hb e=>(hs'.2 b hb).trans e) f0 f1 f3 f4 f5,q⟩⟩
theorem w_compL{k:Nat}{caps:List Nat}{K:PySem.W.Frag}{tl:TE}{g:TG}{tf:TT}{te:TE}{Q:VK}:tComp k caps (iList K tl) g tf te σ H Q=tl σ H fun x H1=>∃ a,x=.ref a/\(∃ xs,SqL K H1 a xs)/\CompJ (Itl K a) g tf te Q (initC k caps σ) H1:=rfl
theorem w_compT{k:Nat}{caps:List Nat}{K:PySem.W.Frag}{tl:TE}{g:TG}{tf:TT}{te:TE}{Q:VK}:tComp k caps (iTup K tl) g tf te σ H Q=tl σ H fun x H1=>∃ a,x=.ref a/\(∃ xs,SqT K H1 a xs)/\CompJ (Itt K a) g tf te Q (initC k caps σ) H1:=rfl
theorem w_comp1{k:Nat}{caps:List Nat}{ta:TA}{g:TG}{tf:TT}{te:TE}{Q:VK}:tComp k caps (iRng1 ta) g tf te σ H Q=ta σ H fun vs H1=>∃ j:Int,vs=[.int j]/\-(2 ^ 62)<=j/\j<2 ^ 62/\CompJ (Itr 0 j.toNat) g tf te Q (initC k caps σ) H1:=rfl
theorem w_comp2{k:Nat}{caps:List Nat}{ta:TA}{g:TG}{tf:TT}{te:TE}{Q:VK}:tComp k caps (iRng2 ta) g tf te σ H Q=ta σ H fun vs H1=>∃ i j:Int,vs=[.int i,.int j]/\(-(2 ^ 62)<=i/\i<2 ^ 62/\-(2 ^ 62)<=j/\j<2 ^ 62)/\CompJ (Itr i (j - i).toNat) g tf te Q (initC k caps σ) H1:=rfl
theorem w_init0{x:Str}{l:List Str}{caps:List Nat}:initC (x::l).length caps σ=none::initC l.length caps σ:=rfl
theorem w_initS{i:Nat}{is:List Nat}:initC ([]:List Str).length (i::is) σ=getJ σ i::initC ([]:List Str).length is σ:=rfl
theorem w_initN:initC ([]:List Str).length [] σ=[]:=rfl
theorem w_get0{x:Option V}:getJ (x::σ) 0=x:=rfl
theorem w_getS{x:Option V}{i:Nat}:getJ (x::σ) (i+1)=getJ σ i:=rfl
theorem w_noif{q:Bool->Hp->Prop}:tNoIf σ H q=q true H:=rfl
end
section
variable {K:PySem.W.Frag} {a:Addr} {xs:List V} {g:TG} {tf:TT} {te:TE} {Q:VK} {σ:St} {H:Hp}
theorem comp_by{J:It}(n:Nat)(hsz:n<=sizeLine)(Pv:Nat->List V->St->Hp->Prop)(h0:Pv 0 [] σ H)(hlen:∀ i ys σ H,Pv i ys σ H->ys.length<=i)(hgo:∀ i ys σ H,i<n->Pv i ys σ H->J.go i H)(hstop:∀ ys σ H,Pv n ys σ H->J.stop n H)
  (hs:∀ i ys σ H x H' (N:List V->St->Hp->Prop),i<n->Pv i ys σ H->J.yld i H x H'->(∀ ys σ H,Pv (i+1) ys σ H->N ys σ H)->g x σ H' fun σ2 H2=>tf σ2 H2 fun b H3=>if b=true then te σ2 H3 fun y H4=>N (ys++[y]) σ2 H4 else N ys σ2 H3)
  (hd:∀ ys σ H p,Pv n ys σ H->H p=none->Q (.ref p) (upd H p (.lst ys))):CompJ J g tf te Q σ H:=by
 refine⟨fun i m ys σ H=>m=n - i/\i<=n/\Pv i ys σ H,⟨n,by simp,Nat.zero_le _,h0⟩,?_⟩
 rintro i m ys σ H ⟨rfl,hi,p⟩
 have hy:=hlen i ys σ H p
 by_cases hlt:i<n
 ·refine .inr ⟨hgo i ys σ H hlt p,by omega,fun x H' y=>?_⟩
  exact hs i ys σ H x H' (fun ys σ H=>∃ m',m'<n - i/\m'=n - (i+1)/\i+1<=n/\Pv (i+1) ys σ H) hlt p y fun ys σ H z=>⟨n - (i+1),by omega,rfl,hlt,z⟩
 ·have e:i=n:=by omega
  subst e
  exact .inl ⟨hstop ys σ H p,by omega,fun p' hp=>hd ys σ H p' p hp⟩
theorem comp_list(Pv:Nat->List V->St->Hp->Prop)(h0:Pv 0 [] σ H)(hl:∀ i ys σ H,Pv i ys σ H->SqL K H a xs/\ys.length<=i)(hsz:xs.length<=sizeLine)
  (hs:∀ i x ys σ H (N:List V->St->Hp->Prop),xs[i]? = some x->Pv i ys σ H->(∀ ys σ H,Pv (i+1) ys σ H->N ys σ H)->g x σ H fun σ2 H2=>tf σ2 H2 fun b H3=>if b=true then te σ2 H3 fun y H4=>N (ys++[y]) σ2 H4 else N ys σ2 H3)
  (hd:∀ ys σ H p,Pv xs.length ys σ H->H p=none->Q (.ref p) (upd H p (.lst ys))):CompJ (Itl K a) g tf te Q σ H:=by
 refine comp_by xs.length hsz Pv h0 (fun i ys σ H p=>(hl i ys σ H p).2) (fun i ys σ H hi p=>⟨xs,xs[i],(hl i ys σ H p).1,by simp [hi]⟩) (fun ys σ H p=>⟨xs,(hl _ ys σ H p).1,Nat.le_refl _⟩) ?_ hd
 rintro i ys σ H x H' N hi p ⟨rfl,y⟩ hN
 exact hs i x ys σ H' N (y xs (hl i ys σ _ p).1) p hN
theorem comp_range{lo:Int}{n:Nat}(Pv:Nat->List V->St->Hp->Prop)(h0:Pv 0 [] σ H)(hl:∀ i ys σ H,Pv i ys σ H->ys.length<=i)(hsz:n<=sizeLine)
  (hs:∀ i ys σ H (N:List V->St->Hp->Prop),i<n->Pv i ys σ H->(∀ ys σ H,Pv (i+1) ys σ H->N ys σ H)->g (.int (lo+i)) σ H fun σ2 H2=>tf σ2 H2 fun b H3=>if b=true then te σ2 H3 fun y H4=>N (ys++[y]) σ2 H4 else N ys σ2 H3)
  (hd:∀ ys σ H p,Pv n ys σ H->H p=none->Q (.ref p) (upd H p (.lst ys))):CompJ (Itr lo n) g tf te Q σ H:=by
 refine comp_by n hsz Pv h0 hl (fun i ys σ H hi p=>hi) (fun ys σ H p=>Nat.le_refl _) ?_ hd
 rintro i ys σ H x H' N hi p ⟨rfl,rfl⟩ hN
 exact hs i ys σ H' N hi p hN
theorem comp_map{J:It}(n:Nat)(hsz:n<=sizeLine){rest:St}(xs ys:List V)(hl:ys.length=n)(hgo:∀ i,i<n->J.go i H)(hstop:J.stop n H)(hy:∀ i x H',i<n->J.yld i H x H'->H'=H/\xs[i]? = some x)
  (hs:∀ (i:Nat) (x y:V) (Q':VK),xs[i]? = some x->ys[i]? = some y->Q' y H->te (some x::rest) H Q')
  (q:∀ p,H p=none->Q (.ref p) (upd H p (.lst ys))):CompJ J (gName 0) tNoIf te Q (none::rest) H:=by
 refine comp_by n hsz (fun i zs σ H'=>H'=H/\zs=ys.take i/\∃ x,σ=x::rest) ⟨rfl,by simp,_,rfl⟩ ?_ ?_ ?_ ?_ ?_
 ·rintro i zs σ H' ⟨rfl,rfl,_⟩
  rw [List.length_take];omega
 ·rintro i zs σ H' hi ⟨rfl,_,_⟩
  exact hgo i hi
 ·rintro zs σ H' ⟨rfl,_,_⟩
  exact hstop
 ·rintro i zs σ H1 x H' N hi ⟨rfl,rfl,z,rfl⟩ y hN
  obtain⟨rfl,hx⟩:=hy i x H' hi y
  show te (some x::rest) H' _
  have hyi:ys[i]? = some ys[i]:=List.getElem?_eq_getElem (by omega)
  refine hs i x ys[i] _ hx hyi (hN _ _ _ ⟨rfl,?_,_,rfl⟩)
  rw [List.take_add_one,hyi];rfl
 ·rintro zs σ H' p ⟨rfl,rfl,_⟩ hp
  rw [<-hl,List.take_length]
  exact q p hp
theorem comp_mapL{rest:St}(hx:SqL K H a xs)(hsz:xs.length<=sizeLine)(ys:List V)(hl:ys.length=xs.length)
  (hs:∀ (i:Nat) (x y:V) (Q':VK),xs[i]? = some x->ys[i]? = some y->Q' y H->te (some x::rest) H Q')
  (q:∀ p,H p=none->Q (.ref p) (upd H p (.lst ys))):CompJ (Itl K a) (gName 0) tNoIf te Q (none::rest) H:=by
 refine comp_map xs.length hsz xs ys hl (fun i hi=>⟨xs,xs[i],hx,by simp [hi]⟩) ⟨xs,hx,Nat.le_refl _⟩ (fun i x H' hi y=>⟨y.1,y.2 xs hx⟩) hs q
theorem comp_mapT{rest:St}(hx:SqT K H a xs)(hsz:xs.length<=sizeLine)(ys:List V)(hl:ys.length=xs.length)
  (hs:∀ (i:Nat) (x y:V) (Q':VK),xs[i]? = some x->ys[i]? = some y->Q' y H->te (some x::rest) H Q')
  (q:∀ p,H p=none->Q (.ref p) (upd H p (.lst ys))):CompJ (Itt K a) (gName 0) tNoIf te Q (none::rest) H:=
 comp_map xs.length hsz xs ys hl (fun i hi=>⟨xs,xs[i],hx,by simp [hi]⟩) ⟨xs,hx,Nat.le_refl _⟩ (fun i x H' hi y=>⟨y.1,y.2 xs hx⟩) hs q
end
end L2
namespace Rm
open PySem L2
theorem rngZ_len(lo:Int)(n:Nat):(rngZ lo n).length=n:=by simp [rngZ]
def wholeD(d:PyData):Bool:=isI d&&!isB d
theorem whole_of{K:PySem.W.Frag}{H:Hp}{x:V}{d:PyData}{Q:VK}{E:XK}(h:Dat H x d)(q:Q (.bl (wholeD d)) H):spWhole K [x] H Q E:=
 ⟨x,_,isI d,isB d,rfl,h.ty,by cases h<;>rfl,by cases h<;>rfl,q⟩
theorem dat_two{H:Hp}{xs:List V}{d e:PyData}(h:DatL H xs [d,e]):∃ x y,xs=[x,y]/\Dat H x d/\Dat H y e:=by
 cases h with
 | cons h1 h2=>
  cases h2 with
  | cons h3 h4=>cases h4;exact⟨_,_,rfl,h1,h3⟩
end Rm
namespace Rm
open PySem L2
theorem perm_of_map{α β:Type}{f:α->β}{ys:List β}{zs:List β}(h:ys.Perm zs):∀ {xs:List α},zs=xs.map f->∃ xs':List α,xs'.Perm xs/\ys=xs'.map f:=by
 induction h with
 | nil=>intro xs e;exact⟨[],by rw [List.map_eq_nil_iff.mp e.symm],rfl⟩
 | cons x _ ih=>
  intro xs e
  obtain⟨a,r,rfl,rfl,rfl⟩:=List.map_eq_cons_iff.mp e.symm
  obtain⟨r',h1,rfl⟩:=ih rfl
  exact⟨a::r',h1.cons a,rfl⟩
 | swap x y l=>
  intro xs e
  obtain⟨a,r,rfl,rfl,e2⟩:=List.map_eq_cons_iff.mp e.symm
  obtain⟨b,r2,rfl,rfl,rfl⟩:=List.map_eq_cons_iff.mp e2
  exact⟨b::a::r2,.swap a b r2,rfl⟩
 | trans _ _ ih1 ih2=>
  intro xs e
  obtain⟨r,h1,e1⟩:=ih2 e
  obtain⟨r',h2,e2⟩:=ih1 e1
  exact⟨r',h2.trans h1,e2⟩
theorem paired_zip{α β:Type}{R:α->β->Prop}:∀ {xs:List α} {ys:List β},Paired R xs ys->∃ zs:List (α×β),xs=zs.map (·.1)/\ys=zs.map (·.2)/\∀ z∈zs,R z.1 z.2
 | _,_,.nil=>⟨[],rfl,rfl,(fun z h=>nomatch h)⟩
 | _,_,.cons (a:=a) (b:=b) r t=>by
  obtain⟨zs,rfl,rfl,h⟩:=paired_zip t
  exact⟨(a,b)::zs,rfl,rfl,fun z hz=>by
   rcases List.mem_cons.mp hz with rfl | hz
   ·exact r
   ·exact h z hz⟩
end Rm
namespace L2
open PySem PySem.Spec PyProof.Rows
section
variable {κ:Type} [DecidableEq κ]
def valV(kvs:List (κ×V))(k:κ):Option V:=(kvs.find? fun kv=>decide (kv.1=k)).map (·.2)
def putK(kvs:List (κ×V))(k:κ)(v:V):List (κ×V):=
 if (kvs.any fun kv=>decide (kv.1=k))=true then kvs.map (fun kv=>if kv.1=k then (kv.1,v) else kv) else kvs++[(k,v)]
theorem valV_pos{p:κ×V}{r:List (κ×V)}{k:κ}(e:p.1=k):valV (p::r) k=some p.2:=by simp [valV,List.find?_cons,e]
theorem valV_neg{p:κ×V}{r:List (κ×V)}{k:κ}(e:¬ p.1=k):valV (p::r) k=valV r k:=by simp [valV,List.find?_cons,e]
theorem valV_any(k:κ):∀ kvs:List (κ×V),(kvs.any fun kv=>decide (kv.1=k))=(valV kvs k).isSome
 | []=>rfl
 | p::r=>by
  rw [List.any_cons]
  by_cases e:p.1=k
  ·simp only [valV_pos e,decide_eq_true e,Bool.true_or,Option.isSome_some]
  ·rw [valV_neg e,decide_eq_false e,Bool.false_or];exact valV_any k r
theorem valV_map(k j:κ)(y:V):∀ kvs:List (κ×V),valV (kvs.map fun kv=>if kv.1=k then (kv.1,y) else kv) j=(valV kvs j).map fun x=>if j=k then y else x
 | []=>rfl
 | p::r=>by
  have ih:=valV_map k j y r
  rw [List.map_cons]
  by_cases h:p.1=k
  ·rw [if_pos h]
   by_cases e:p.1=j
   ·rw [valV_pos (p:=(p.1,y)) e,valV_pos e,Option.map_some,if_pos (e.symm.trans h)]
   ·rw [valV_neg (p:=(p.1,y)) e,valV_neg e,ih]
  ·rw [if_neg h]
   by_cases e:p.1=j
   ·rw [valV_pos (p:=p) e,valV_pos e,Option.map_some,if_neg (fun z=>h (e.trans z))]
   ·rw [valV_neg (p:=p) e,valV_neg e,ih]
theorem valV_snoc(k j:κ)(y:V):∀ kvs:List (κ×V),valV kvs k=none->valV (kvs++[(k,y)]) j=if j=k then some y else valV kvs j
 | [],_=>by
  by_cases e:k=j
  ·rw [if_pos e.symm];exact valV_pos (p:=(k,y)) e
  ·rw [if_neg (fun z=>e z.symm)];exact valV_neg (p:=(k,y)) e
 | p::r,hn=>by
  rw [List.cons_append]
  have hk:¬ p.1=k:=fun z=>by rw [valV_pos z] at hn;cases hn
  rw [valV_neg hk] at hn
  have ih:=valV_snoc k j y r hn
  by_cases e:p.1=j
  ·rw [valV_pos e,valV_pos e,if_neg (fun z=>hk (e.trans z))]
  ·rw [valV_neg e,valV_neg e,ih]
theorem valV_put(kvs:List (κ×V))(k j:κ)(y:V):valV (putK kvs k y) j=if j=k then some y else valV kvs j:=by
 unfold putK
 by_cases a:(kvs.any fun kv=>decide (kv.1=k))=true
 ·rw [if_pos a,valV_map]
  rw [valV_any] at a
  by_cases e:j=k
  ·obtain⟨x,hx⟩:=Option.isSome_iff_exists.mp a
   rw [if_pos e,e,hx,Option.map_some,if_pos rfl]
  ·rw [if_neg e]
   cases valV kvs j with
   | none=>rfl
   | some x=>rw [Option.map_some,if_neg e]
 ·rw [if_neg a]
  refine valV_snoc k j y kvs ?_
  rw [valV_any] at a
  cases q:valV kvs k with
  | none=>rfl
  | some x=>rw [q] at a;exact (a rfl).elim
theorem length_putK(kvs:List (κ×V))(k:κ)(v:V):(putK kvs k v).length<=kvs.length+1:=by
 unfold putK
 split
 ·rw [List.length_map];omega
 ·rw [List.length_append,List.length_cons,List.length_nil];omega
theorem putK_new{kvs:List (κ×V)}{k:κ}(v:V)(h:valV kvs k=none):putK kvs k v=kvs++[(k,v)]:=by
 unfold putK
 rw [valV_any,h]
 exact if_neg (by decide)
theorem RelO.isSome_eq{o:Option V}{u:Option Value}(r:RelO o u):o.isSome=u.isSome:=by
 cases o with
 | none=>cases u with
  | none=>rfl
  | some _=>exact (show False from r).elim
 | some _=>cases u with
  | none=>exact (show False from r).elim
  | some _=>rfl
theorem RelO.getD{o:Option V}{u:Option Value}{d:V}{d':Value}(r:RelO o u)(rd:RelV d d'):RelV (o.getD d) (u.getD d'):=by
 cases o with
 | none=>cases u with
  | none=>exact rd
  | some _=>exact (show False from r).elim
 | some _=>cases u with
  | none=>exact (show False from r).elim
  | some _=>exact r
theorem KV.val{kvs:List (κ×V)}{vs:List (κ×Value)}(r:KV kvs vs)(k:κ):RelO (valV kvs k) (valueAt vs k):=by
 unfold KV at r
 induction r with
 | nil=>exact True.intro
 | @cons p q ps qs h t ih=>
  obtain⟨h1,h2⟩:=h
  by_cases e:p.1=k
  ·have e':q.1=k:=h1.symm.trans e
   have b:valueAt (q::qs) k=some q.2:=by simp [valueAt,List.find?_cons,e']
   rw [valV_pos e,b];exact h2
  ·have e':¬ q.1=k:=fun z=>e (h1.trans z)
   have b:valueAt (q::qs) k=valueAt qs k:=by simp [valueAt,List.find?_cons,e']
   rw [valV_neg e,b];exact ih
theorem KV.any{kvs:List (κ×V)}{vs:List (κ×Value)}(r:KV kvs vs)(k:κ):(kvs.any fun kv=>decide (kv.1=k))=vs.any fun kv=>decide (kv.1=k):=by
 unfold KV at r
 induction r with
 | nil=>rfl
 | cons h t ih=>rw [List.any_cons,List.any_cons,ih,h.1]
theorem KV.repl{kvs:List (κ×V)}{vs:List (κ×Value)}(r:KV kvs vs)(k:κ){y:V}{u:Value}(ry:RelV y u):
  KV (kvs.map fun kv=>if kv.1=k then (kv.1,y) else kv) (vs.map fun kv=>if kv.1=k then (kv.1,u) else kv):=by
 unfold KV at r ⊢
 induction r with
 | nil=>exact .nil
 | @cons p q ps qs h t ih=>
  rw [List.map_cons,List.map_cons]
  refine .cons ?_ ih
  obtain⟨h1,h2⟩:=h
  by_cases e:p.1=k
  ·rw [if_pos e,if_pos (h1.symm.trans e)];exact⟨h1,ry⟩
  ·rw [if_neg e,if_neg (fun z=>e (h1.trans z))];exact⟨h1,h2⟩
theorem KV.put{kvs:List (κ×V)}{vs:List (κ×Value)}(r:KV kvs vs)(k:κ){y:V}{u:Value}(ry:RelV y u):KV (putK kvs k y) (stored vs k u):=by
 unfold putK stored
 rw [r.any k]
 by_cases e:(vs.any fun kv=>decide (kv.1=k))=true
 ·rw [if_pos e,if_pos e];exact r.repl k ry
 ·rw [if_neg e,if_neg e];exact Paired.snoc r ⟨rfl,ry⟩
theorem KV.length{kvs:List (κ×V)}{vs:List (κ×Value)}(r:KV kvs vs):kvs.length=vs.length:=Paired.length r
end
theorem kV_is{P:Program}{w:World}{k:Key}{u:Value}(r:RelV (kV k) u):(mixKind P w).is k u=true:=by
 cases k with
 | inl i=>obtain⟨t,e⟩:=(show ∃ t,u=Value.int i t from r);subst e;exact mixKind_int P w i t
 | inr x=>obtain⟨t,e⟩:=(show ∃ t,u=Value.str x t from r);subst e;exact mixKind_str P w x t
theorem items_are{P:Program}{w:World}:∀ {ks:List Key} {us:List Value},Vals (ks.map kV) us->ItemsAre (mixKind P w) ks us
 | [],_,r=>by rw [List.map_nil] at r;cases r;exact .nil
 | k::ks,_,r=>by
  rw [List.map_cons] at r
  cases r with
  | cons h t=>exact .cons (kV_is h) (items_are t)
abbrev KT (H:Hp):List (List Key×V)->List (List Key×Addr×Value)->Prop:=Paired fun p q=>p.1=q.1/\H q.2.1=some (.tup (p.1.map kV))/\RelV p.2 q.2.2
theorem KT.val{H:Hp}{kvs:List (List Key×V)}{xs:List (List Key×Addr×Value)}(r:KT H kvs xs)(k:List Key):RelO (valV kvs k) ((atKey xs k).map (·.2)):=by
 induction r with
 | nil=>exact True.intro
 | @cons p q ps qs h t ih=>
  obtain⟨h1,_,h2⟩:=h
  by_cases e:p.1=k
  ·have e':q.1=k:=h1.symm.trans e
   have b:atKey (q::qs) k=some q.2:=by simp [atKey,List.find?_cons,e']
   rw [valV_pos e,b];exact h2
  ·have e':¬ q.1=k:=fun z=>e (h1.trans z)
   have b:atKey (q::qs) k=atKey qs k:=by simp [atKey,List.find?_cons,e']
   rw [valV_neg e,b];exact ih
theorem KT.repl{H:Hp}{kvs:List (List Key×V)}{xs:List (List Key×Addr×Value)}(r:KT H kvs xs)(k:List Key){y:V}{u:Value}(ry:RelV y u):
  KT H (kvs.map fun kv=>if kv.1=k then (kv.1,y) else kv) (xs.map (putAt k u)):=by
 induction r with
 | nil=>exact .nil
 | @cons p q ps qs h t ih=>
  rw [List.map_cons,List.map_cons]
  refine .cons ?_ ih
  obtain⟨h1,h2,h3⟩:=h
  unfold putAt
  by_cases e:p.1=k
  ·rw [if_pos e,if_pos (h1.symm.trans e)];exact⟨h1,h2,ry⟩
  ·rw [if_neg e,if_neg (fun z=>e (h1.trans z))];exact⟨h1,h2,h3⟩
theorem KT.put{H:Hp}{kvs:List (List Key×V)}{xs:List (List Key×Addr×Value)}(r:KT H kvs xs)(k:List Key){b:Addr}{y:V}{u:Value}(hb:H b=some (.tup (k.map kV)))(ry:RelV y u):
  KT H (putK kvs k y) (storedH xs k b u):=by
 have e:(kvs.any fun kv=>decide (kv.1=k))=(atKey xs k).isSome:=by
  rw [valV_any,(r.val k).isSome_eq,Option.isSome_map]
 unfold putK storedH
 rw [e]
 by_cases q:(atKey xs k).isSome=true
 ·rw [if_pos q,if_pos q];exact r.repl k ry
 ·rw [if_neg q,if_neg q];exact Paired.snoc r ⟨rfl,hb,ry⟩
theorem KT.keeps{H H':Hp}{kvs:List (List Key×V)}{xs:List (List Key×Addr×Value)}(r:KT H kvs xs)(ht:∀ b ys,H b=some (.tup ys)->H' b=some (.tup ys)):KT H' kvs xs:=
 Paired.mapP r fun _ _ z=>⟨z.1,ht _ _ z.2.1,z.2.2⟩
section
variable {P:Program} {w:World} {H:Hp} {h:Heap} {a:Addr}
theorem rd_of{u:HO}(ok:HOk P w H h)(e:Rd H a u):ObjOk P w H h a u:=e.ok ok
theorem dk_rd{kvs:List (Key×V)}(ok:HOk P w H h)(e:Rd H a (.dK kvs)):kvs.length<=sizeLine/\(a==sysModules)=false/\∃ vs,KV kvs vs/\h.DictOf (mixKind P w) a vs:=
 show ObjOk P w H h a (.dK kvs) from rd_of ok e
theorem dk_of{kvs:List (Key×V)}(ok:HOk P w H h)(e:H a=some (.dK kvs)):kvs.length<=sizeLine/\(a==sysModules)=false/\∃ vs,KV kvs vs/\h.DictOf (mixKind P w) a vs:=dk_rd ok (.inl e)
theorem key_of{ks:List Key}(ok:HOk P w H h)(e:H a=some (.tup (ks.map kV))):(tupleKind (mixKind P w)).is h ks a:=by
 obtain⟨_,its,r,o,h1,h2,n,h3⟩:=(show ObjOk P w H h a (.tup (ks.map kV)) from ok a _ e)
 exact⟨o,its.toArray,n,h1,h2,h3,by simpa using items_are r⟩
theorem dt_rd{kvs:List (List Key×V)}(ok:HOk P w H h)(e:Rd H a (.dT kvs)):kvs.length<=sizeLine/\(a==sysModules)=false ∧
  ∃ xs,KT H kvs xs/\h.DictOfH (tupleKind (mixKind P w)) a xs:=by
 obtain⟨z,y,xs,r,o,es,ep,h1,h2,h3,h4,h5⟩:=(show ObjOk P w H h a (.dT kvs) from rd_of ok e)
 refine⟨z,y,xs,r,o,es,ep,h1,h2,h3,h4,fun x hx=>?_,h5⟩
 have all:∀ {l:List (List Key×V)} {m:List (List Key×Addr×Value)},KT H l m->∀ x∈m,(tupleKind (mixKind P w)).is h x.1 x.2.1:=by
  intro l m q
  induction q with
  | nil=>intro x hx;exact nomatch hx
  | @cons p q ps qs hq t ih=>
   intro x hx
   rcases List.mem_cons.mp hx with e | hx
   ·subst e
    exact key_of ok (by rw [<-hq.1];exact hq.2.1)
   ·exact ih x hx
 exact all r x hx
theorem dt_of{kvs:List (List Key×V)}(ok:HOk P w H h)(e:H a=some (.dT kvs)):kvs.length<=sizeLine/\(a==sysModules)=false ∧
  ∃ xs,KT H kvs xs/\h.DictOfH (tupleKind (mixKind P w)) a xs:=dt_rd ok (.inl e)
end
def DGet(H:Hp)(a:Addr)(y:V)(r:Option V):Prop:=
 (∃ kvs k,Rd H a (.dK kvs)/\y=kV k/\r=valV kvs k)\/∃ kvs k b,Rd H a (.dT kvs)/\y=.ref b/\H b=some (.tup (k.map kV))/\r=valV kvs k
def DPut(H:Hp)(a:Addr)(y v:V)(H':Hp):Prop:=
 (∃ kvs k,H a=some (.dK kvs)/\y=kV k/\kvs.length<sizeLine/\H'=upd H a (.dK (putK kvs k v))) ∨
 ∃ kvs k b,H a=some (.dT kvs)/\y=.ref b/\H b=some (.tup (k.map kV))/\kvs.length<sizeLine/\H'=upd H a (.dT (putK kvs k v))
theorem DGet.k{H:Hp}{a:Addr}{kvs:List (Key×V)}{k:Key}(e:H a=some (.dK kvs)):DGet H a (kV k) (valV kvs k):=.inl ⟨kvs,k,.inl e,rfl,rfl⟩
theorem DGet.t{H:Hp}{a b:Addr}{kvs:List (List Key×V)}{k:List Key}(e:H a=some (.dT kvs))(eb:H b=some (.tup (k.map kV))):DGet H a (.ref b) (valV kvs k):=.inr ⟨kvs,k,b,.inl e,rfl,eb,rfl⟩
theorem DPut.k{H:Hp}{a:Addr}{kvs:List (Key×V)}{k:Key}{v:V}(e:H a=some (.dK kvs))(hl:kvs.length<sizeLine):DPut H a (kV k) v (upd H a (.dK (putK kvs k v))):=.inl ⟨kvs,k,e,rfl,hl,rfl⟩
theorem DPut.t{H:Hp}{a b:Addr}{kvs:List (List Key×V)}{k:List Key}{v:V}(e:H a=some (.dT kvs))(eb:H b=some (.tup (k.map kV)))(hl:kvs.length<sizeLine):
  DPut H a (.ref b) v (upd H a (.dT (putK kvs k v))):=.inr ⟨kvs,k,b,e,rfl,eb,hl,rfl⟩
section
variable {X:Cx} {pins:List (Addr×Obj)} {σ:St} {H:Hp} {s:Shared} {a:Addr} {y v:V} {u r:Value} {o:Option V} {A:Around} {E:Value->Shared->Prop}
theorem Inv.big(I:Inv X pins σ H s):sysModules<s.heap.objs.size:=by
 have h:mainGlobals<s.heap.objs.size:=(I.mod.glob.keeps I.bk).lt
 exact Nat.lt_trans (by decide) h
theorem d_getItem{Q:Value->Shared->Prop}(hu:A.units+1<cLine)(I:Inv X pins σ H s)(g:DGet H a y (some v))(ry:RelV y u)(h:∀ w' s',Inv X pins σ H s'->RelV v w'->Q w' s'):
  wpAny (model X.prog X.w) A (getItem (.ref a) u) Q E s:=by
 rcases g with ⟨kvs,k,e,ey,l⟩ | ⟨kvs,k,b,e,ey,eb,l⟩
 ·subst ey
  obtain⟨z,hd,vs,rel,dd⟩:=dk_rd I.hok e
  obtain⟨w',hw,rw'⟩:=RelO.some_of (v:=v) (o:=valueAt vs k) (by rw [l];exact rel.val k)
  exact wpAny_getItem_of (kV_is ry) dd.mapOf hw (h w' _ (I.tok _) rw')
 ·subst ey
  cases (show u=Value.ref b from ry)
  obtain⟨z,hd,xs,rel,dd⟩:=dt_rd I.hok e
  obtain⟨w',hw,rw'⟩:=RelO.some_of (v:=v) (o:=(atKey xs k).map (·.2)) (by rw [l];exact rel.val k)
  obtain⟨p,hp,hp2⟩:=Option.map_eq_some_iff.mp hw
  refine wpAny_getItem_heap (tupleKind_room_in1 hu) (key_of I.hok eb) dd hp ?_
  rw [hp2]
  exact h w' _ (I.tok _) rw'
theorem d_write{h':Heap}{t':Nat}{ob:HO}(I:Inv X pins σ H s)(mu:Mut (H a))(hs:Heap.SameBut a s.heap h')(he:∃ q,h'.get? a=some q)(new:ObjOk X.prog X.w (upd H a ob) h' a ob):
  Inv X pins σ (upd H a ob) { s with heap:=h',toks:=t' }:=
 I.write (x:=a) (e:=a) mu (.inl rfl) (fun b q hb z=>(hs.2 b hb).trans z) he new
theorem dk_new{P:Program}{w:World}{H':Hp}{h':Heap}{kvs:List (Key×V)}{vs:List (Key×Value)}(z:kvs.length<=sizeLine)(hd:(a==sysModules)=false)(rel:KV kvs vs)(dd:h'.DictOf (mixKind P w) a vs):
  ObjOk P w H' h' a (.dK kvs):=⟨z,hd,vs,rel,dd⟩
theorem d_setItem{H':Hp}{Q:Unit->Shared->Prop}(hu:A.units+1<cLine)(I:Inv X pins σ H s)(g:DPut H a y v H')(ry:RelV y u)(rv:RelV v r)(h:∀ s',Inv X pins σ H' s'->Q () s'):
  wpAny (model X.prog X.w) A (setItem (.ref a) u r) Q E s:=by
 rcases g with ⟨kvs,k,e,ey,l,eH⟩ | ⟨kvs,k,b,e,ey,eb,l,eH⟩
 ·subst ey eH
  obtain⟨z,hd,vs,rel,dd⟩:=dk_of I.hok e
  have hz:vs.length<=sizeLine:=by rw [<-rel.length];exact z
  have hl:(putK kvs k v).length<=sizeLine:=by have:=length_putK kvs k v;omega
  refine wpAny_setItem_pairs (hsz:=hz) (kV_is ry) dd fun h' dd' hs=>h _ ?_
  have he:∃ q,h'.get? a=some q:=let ⟨q,_,_,hq,_⟩:=dd';⟨q,hq⟩
  exact d_write I (by rw [e];exact True.intro) hs he (dk_new hl hd (rel.put k rv) dd')
 ·subst ey eH
  cases (show u=Value.ref b from ry)
  obtain⟨z,hd,xs,rel,dd⟩:=dt_of I.hok e
  have hz:xs.length<=sizeLine:=by rw [<-Paired.length rel];exact z
  have hl:(putK kvs k v).length<=sizeLine:=by have:=length_putK kvs k v;omega
  refine wpAny_setItem_heap (hsz:=hz) (tupleKind_room_in1 hu) (key_of I.hok eb) dd fun h' dd' hs=>h _ ?_
  obtain⟨q,es,ep,hq,h2,h3,h4,_,h5⟩:=dd'
  refine d_write I (by rw [e];exact True.intro) hs ⟨q,hq⟩ ⟨hl,hd,_,(rel.put k eb rv).keeps fun c ys ec=>?_,q,es,ep,hq,h2,h3,h4,h5⟩
  rw [upd_ne (ne_of ec e (fun z=>nomatch z))]
  exact ec
end
def NoSl(i:Expr):Prop:=∀ ov iv,subscripted i false ov iv=operate [ov,iv] (getItem ov iv)
theorem subD_of{prog:Program}{w:World}{A:Around}{E:Value->Shared->Prop}{s:Shared}{env:Env}{value slice:Expr}{pos:Pos}{T id:String}{Q:Value->Shared->Prop}
  (hl:typeLookup (.type T) "__getitem__"=pure (some (.builtin id))) (hs:NoSl slice)
  (h:wpAny (model prog w) A (eval value env) (fun o s₁=>wpAny (model prog w) A (eval slice env) (fun i s₂=>s₂.TypeIs o T/\wpAny (model prog w) A (getItem o i) Q E s₂) E s₁) E s) :
  wpAny (model prog w) A (eval (.Subscript value slice pos) env) Q E s:=by
 refine Subscript_ (wpAny_mono h (fun o s₁ h₁=>wpAny_mono h₁ (fun i s₂ h₂=>?_) fun _ _ x=>x) fun _ _ x=>x)
 obtain⟨hT,h₂⟩:=h₂
 unfold subscriptTail
 refine wpAny_bind ?_
 rw [getitemInPython_of_ne hT.not_modules]
 refine wpAny_bind (wpAny_specialOf hT hl ?_)
 have fin:wpAny (model prog w) A (subscripted slice false o i) (fun r s₃=>wpAny (model prog w) A (letTemporaryGo value o r>>=fun _=>pure r) Q E s₃) E s₂:=by
  rw [hs o i]
  exact wpAny_operating (wpAny_mono h₂ (fun r s₃ h₃=>wpAny_bind (wpAny_letTemporaryGo (wpAny_pure h₃))) fun _ _ x=>x)
 first
  | exact wpAny_pure (wpAny_bind fin)
  | exact wpAny_bind (wpAny_pure (wpAny_bind fin))
  | exact wpAny_bind fin
theorem dict_typeIs {X:Cx} {pins:List (Addr×Obj)} {σ:St} {H:Hp} {s:Shared} {a:Addr} {y:V} {o:Option V} (I:Inv X pins σ H s) (g:DGet H a y o):s.TypeIs (.ref a) "dict":=by
 rcases g with ⟨kvs,k,e,_,_⟩ | ⟨kvs,k,b,e,_,_,_⟩
 ·obtain⟨_,_,vs,_,dd⟩:=dk_rd I.hok e
  exact dd.typeIs
 ·obtain⟨_,_,xs,_,dd⟩:=dt_rd I.hok e
  exact dd.typeIs
def tDGet(td ty:TE):TE:=fun σ H Q=>td σ H fun x H1=>ty σ H1 fun y H2=>∃ a v,x=.ref a/\DGet H2 a y (some v)/\Q v H2
def sDPut(td ty tv:TE):TS:=fun D σ H=>tv σ H fun v H1=>td σ H1 fun x H2=>ty σ H2 fun y H3=>∃ a H4,x=.ref a/\DPut H3 a y v H4/\D.nx σ H4
section
variable {X:Cx} {o i e value:Expr} {pos pos' tpos:Pos} {td ty tv:TE}
theorem pe_dget(hu:X.A.units+1<cLine)(ho:PE X o td)(hi:PE X i ty)(hs:NoSl i):PE X (.Subscript o i pos) (tDGet td ty):=by
 intro pins s σ H Q I h
 refine subD_of PySem.F.slot_dict_getitem.lookup hs (thn (ho pins s σ H _ I h) fun u s1 ⟨x,H1,I1,rx,q1⟩=>thn (hi pins s1 σ H1 _ I1 q1) fun iv s2 ⟨y,H2,I2,ry,a,v,ex,g,q2⟩=>?_)
 subst ex
 obtain rfl:u=Value.ref a:=rx
 exact⟨dict_typeIs I2 g,d_getItem hu I2 g ry fun w' s3 I3 rw'=>⟨v,H2,I3,rw',q2⟩⟩
theorem ps_dput(hu:X.A.units+1<cLine)(ho:PE X o td)(hi:PE X i ty)(hv:PE X value tv)(hs:swapsWith value (some (.Subscript o i pos')) pos.line X.env=pure false):
  PS X (.Assign [.Subscript o i pos'] value pos) (sDPut td ty tv):=by
 intro pins s σ H D I h
 refine wpAny_Assign_Subscript (thn (hv pins s σ H _ I h) fun r s1 ⟨v,H1,I1,rv,q1⟩=>thn (ho pins s1 σ H1 _ I1 q1) fun u s2 ⟨x,H2,I2,rx,q2⟩=>thn (hi pins s2 σ H2 _ I2 q2) fun iv s3 ⟨y,H3,I3,ry,a,H4,ex,g,q3⟩=>?_) hs
 subst ex
 obtain rfl:u=Value.ref a:=rx
 exact d_setItem hu I3 g ry rv fun s4 I4=>⟨σ,H4,I4,q3⟩
end
theorem dk_empty {P:Program} {w:World} {H:Hp} (h:Heap) (hb:sysModules<h.objs.size):ObjOk P w H (h.push { cls:=.type "dict",data:=.dict #[] }) h.objs.size (.dK []):=
 ⟨Nat.zero_le _,beq_eq_false_iff_ne.mpr (Ne.symm (Nat.ne_of_lt hb)),[],.nil,Heap.DictOf.new h⟩
theorem dt_empty {P:Program} {w:World} {H:Hp} (h:Heap) (hb:sysModules<h.objs.size):ObjOk P w H (h.push { cls:=.type "dict",data:=.dict #[] }) h.objs.size (.dT []):=
 ⟨Nat.zero_le _,beq_eq_false_iff_ne.mpr (Ne.symm (Nat.ne_of_lt hb)),[],.nil,_,#[],0,Heap.get?_push_size _ rfl,⟨rfl,rfl,rfl⟩,rfl,rfl,List.nodup_nil⟩
def tDNewK:TE:=fun _ H Q=>∀ p,H p=none->Q (.ref p) (upd H p (.dK []))
def tDNewT:TE:=fun _ H Q=>∀ p,H p=none->Q (.ref p) (upd H p (.dT []))
section
variable {X:Cx} {pos:Pos}
theorem pe_dnewK:PE X (.Dict [] [] pos) tDNewK:=fun pins s σ H Q I h=>
 wpAny_Dict_empty ⟨.ref s.heap.objs.size,_,I.laid (a:=s.heap.objs.size) (o:=.dK []) (t':=s.toks) (fun _ _ q=>Heap.get?_push_of_some _ q) (Nat.le_refl _) (dk_empty s.heap I.big),rfl,h _ (I.hok.fresh (Nat.le_refl _))⟩
theorem pe_dnewT:PE X (.Dict [] [] pos) tDNewT:=fun pins s σ H Q I h=>
 wpAny_Dict_empty ⟨.ref s.heap.objs.size,_,I.laid (a:=s.heap.objs.size) (o:=.dT []) (t':=s.toks) (fun _ _ q=>Heap.get?_push_of_some _ q) (Nat.le_refl _) (dt_empty s.heap I.big),rfl,h _ (I.hok.fresh (Nat.le_refl _))⟩
end
def tPairs:List (TE×TE)->St->Hp->(List (V×V)->Hp->Prop)->Prop
 | [],_,H,Q=>Q [] H
 | (tk,tv)::r,σ,H,Q=>tk σ H fun x H1=>tv σ H1 fun y H2=>tPairs r σ H2 fun ps H3=>Q ((x,y)::ps) H3
abbrev VV:List (V×V)->List (Value×Value)->Prop:=Paired fun p q=>RelV p.1 q.1/\RelV p.2 q.2
def PPs(X:Cx)(pos:Pos)(keys:List (Option Expr))(values:List Expr)(trs:List (TE×TE)):Prop:=
 ∀ (pins:List (Addr×Obj)) (s:Shared) (σ:St) (H:Hp) (Q:List (V×V)->Hp->Prop),Inv X pins σ H s->tPairs trs σ H Q →
  wpAny (model X.prog X.w) X.A (evalPairs (pairTrees keys values X.env pos)) (fun vs s'=>∃ ps H',Inv X pins σ H' s'/\VV ps vs/\Q ps H') X.xe s
theorem pps_nil{X:Cx}{pos:Pos}:PPs X pos [] [] []:=fun pins s σ H Q I h=>pairTrees_nil_walk ⟨[],H,I,.nil,h⟩
theorem pps_cons{X:Cx}{pos:Pos}{k v:Expr}{ks:List (Option Expr)}{vs:List Expr}{tk tv:TE}{trs:List (TE×TE)}(hk:PE X k tk)(hv:PE X v tv)(hr:PPs X pos ks vs trs):
  PPs X pos (some k::ks) (v::vs) ((tk,tv)::trs):=fun pins s σ H Q I h=>
 pairTrees_cons_walk (thn (hk pins s σ H _ I h) fun u s1 ⟨x,H1,I1,rx,q1⟩=>thn (hv pins s1 σ H1 _ I1 q1) fun w2 s2 ⟨y,H2,I2,ry,q2⟩=>
  thn (hr pins s2 σ H2 _ I2 q2) fun ws s3 ⟨ps,H3,I3,rel,q3⟩=>⟨(x,y)::ps,H3,I3,.cons ⟨rx,ry⟩ rel,q3⟩)
def mergeK(kvs more:List (Key×V)):List (Key×V):=more.foldl (fun acc kv=>putK acc kv.1 kv.2) kvs
theorem KV.merge:∀ {more:List (Key×V)} {rs:List (Key×Value)} {kvs:List (Key×V)} {vs:List (Key×Value)},KV more rs->KV kvs vs->KV (mergeK kvs more) (merged vs rs):=by
 intro more rs kvs vs r
 unfold KV at r
 induction r generalizing kvs vs with
 | nil=>intro q;exact q
 | @cons p q ps qs h t ih=>
  intro r0
  have e:KV (putK kvs p.1 p.2) (stored vs q.1 q.2):=by
   have:=r0.put p.1 h.2
   rw [<-h.1];exact this
  exact ih e
theorem length_mergeK:∀ (more kvs:List (Key×V)),(mergeK kvs more).length<=kvs.length+more.length
 | [],kvs=>by show kvs.length<=kvs.length+0;omega
 | p::r,kvs=>by
  have h1:=length_mergeK r (putK kvs p.1 p.2)
  have h2:=length_putK kvs p.1 p.2
  show (mergeK (putK kvs p.1 p.2) r).length<=_
  rw [List.length_cons];omega
theorem carries_of{P:Program}{w:World}:∀ {kvs:List (Key×V)} {ws:List (Value×Value)},VV (kvs.map fun kv=>(kV kv.1,kv.2)) ws->∃ rs,Carries (mixKind P w) ws rs/\KV kvs rs
 | [],_,r=>by rw [List.map_nil] at r;cases r;exact⟨[],True.intro,.nil⟩
 | p::kvs,_,r=>by
  rw [List.map_cons] at r
  cases r with
  | @cons a b as bs h t=>
   obtain⟨rs,c,q⟩:=carries_of (P:=P) (w:=w) t
   obtain⟨b1,b2⟩:=b
   exact⟨(p.1,b2)::rs,⟨kV_is h.1,rfl,c⟩,.cons ⟨rfl,h.2⟩ q⟩
def tDisp(trs:List (TE×TE)):TE:=fun σ H Q=>∀ p,H p=none->tPairs trs σ (upd H p (.dK [])) fun ps H2=>H2 p=some (.dK [])/\∃ kvs:List (Key×V),ps=kvs.map (fun kv=>(kV kv.1,kv.2))/\kvs.length<=15/\Q (.ref p) (upd H2 p (.dK (mergeK [] kvs)))
theorem pe_disp{X:Cx}{pos:Pos}{keys:List (Option Expr)}{values:List Expr}{trs:List (TE×TE)}(h:PPs X pos keys values trs)(hall:keys.all (·.isSome)=true)(hl:keys.length=values.length)(h0:keys≠[])
  (h15:keys.length<=15):PE X (.Dict keys values pos) (tDisp trs):=by
 intro pins s σ H Q I q
 have hn:=I.hok.fresh (Nat.le_refl s.heap.objs.size)
 have I1:=I.laid (a:=s.heap.objs.size) (o:=.dK []) (h':=s.heap.push { cls:=.type "dict",data:=.dict #[] }) (t':=s.toks) (fun _ _ q=>Heap.get?_push_of_some _ q) (Nat.le_refl _) (dk_empty s.heap I.big)
 refine wpAny_Dict_walk (knd:=mixKind X.prog X.w) hall hl h0 h15 (thn (h pins _ σ _ _ I1 (q _ hn)) fun ws s2 ⟨ps,H2,I2,rel,e,kvs,ep,lk,q2⟩=>?_)
 subst ep
 obtain⟨rs,c,rk⟩:=carries_of (P:=X.prog) (w:=X.w) rel
 obtain⟨z,hd,vs0,r0,dd⟩:=dk_of I2.hok e
 cases r0
 refine⟨rs,c,dd,fun h' dd' hs=>⟨.ref s.heap.objs.size,_,?_,rfl,q2⟩⟩
 have hz:(mergeK [] kvs).length<=sizeLine:=by
  have h1:=length_mergeK kvs []
  rw [List.length_nil] at h1
  rw [sizeLine_eq];omega
 have he:∃ q,h'.get? s.heap.objs.size=some q:=let ⟨q,_,_,hq,_⟩:=dd';⟨q,hq⟩
 exact d_write I2 (by rw [e];exact True.intro) hs he (dk_new hz hd (rk.merge .nil) dd')
structure M2 (X:Cx) (o:Expr) (m:Str) (apos:Pos) (e f:Expr) (cpos:Pos):Prop where
 base:attributeBase o m X.env (eval o X.env)=eval o X.env
 few:((backTo cpos (starEach [e,f] X.env)).all (fun x=>!x.1)&&(backToKw cpos (keywordEach [] X.env)).all (fun x=>x.1.isSome)
  && decide (([e,f]:List Expr).length+([]:List Keyword).length+(if ([]:List Keyword).isEmpty then 0 else 1)<30))=true
 line:(apos.endLine==cpos.line)=true
 trees:backTo cpos (starEach [e,f] X.env)=[(false,eval e X.env),(false,eval f X.env)]
def IsD(H:Hp)(a:Addr):Prop:=(∃ kvs,Rd H a (.dK kvs))\/∃ kvs,Rd H a (.dT kvs)
theorem isD_at{X:Cx}{pins:List (Addr×Obj)}{σ:St}{H:Hp}{s:Shared}{a:Addr}(I:Inv X pins σ H s)(d:IsD H a):
  s.TypeIs (.ref a) "dict"/\(∀ b,Value.ref a=.ref b->∃ ob,s.heap.get? b=some ob/\ob.dict=none)/\(a==sysModules)=false:=by
 rcases d with ⟨kvs,e⟩ | ⟨kvs,e⟩
 ·obtain⟨_,hd,vs,_,dd⟩:=dk_rd I.hok e
  refine⟨dd.typeIs,fun b q=>?_,hd⟩
  cases q
  obtain⟨ob,_,_,h1,h2,_⟩:=dd
  exact⟨ob,h1,h2.2.1⟩
 ·obtain⟨_,hd,xs,_,dd⟩:=dt_rd I.hok e
  refine⟨dd.typeIs,fun b q=>?_,hd⟩
  cases q
  obtain⟨ob,_,_,h1,h2,_⟩:=dd
  exact⟨ob,h1,h2.2.1⟩
section
variable {X:Cx} {pins:List (Addr×Obj)} {σ:St} {H:Hp} {s:Shared} {a:Addr} {y d:V} {u r:Value} {o:Option V} {A:Around} {E:Value->Shared->Prop}
theorem d_get2{Q:Value->Shared->Prop}(hu:A.units+1<cLine)(I:Inv X pins σ H s)(g:DGet H a y o)(ry:RelV y u)(rd:RelV d r)(h:∀ w' s',Inv X pins σ H s'->RelV (o.getD d) w'->Q w' s'):
  wpAny (model X.prog X.w) A (call (.builtin "dict.get") [.ref a,u,r]) Q E s:=by
 rcases g with ⟨kvs,k,e,ey,l⟩ | ⟨kvs,k,b,e,ey,eb,l⟩
 ·subst ey
  obtain⟨z,hd,vs,rel,dd⟩:=dk_rd I.hok e
  refine call_meetsIn PySem.F.slot_dict_get dd.typeIs PySem.F.entry_dict_get (PySem.F.args_dict_get_3 _ _ _) (meets_dict_get_default (mixKind X.prog X.w) a (kV_is ry) hd r) ⟨_,dd.mapOf,h _ _ (I.tok _) ?_⟩
  rw [l]
  exact (rel.val k).getD rd
 ·subst ey
  cases (show u=Value.ref b from ry)
  obtain⟨z,hd,xs,rel,dd⟩:=dt_rd I.hok e
  refine call_meetsIn PySem.F.slot_dict_get dd.typeIs PySem.F.entry_dict_get (PySem.F.args_dict_get_3 _ _ _) (meetsH_dict_get_default (tupleKind (mixKind X.prog X.w)) a b hd r) ⟨tupleKind_room_in1 hu,k,xs,key_of I.hok eb,dd,h _ _ (I.tok _) ?_⟩
  rw [l]
  exact (rel.val k).getD rd
end
def tDGet2(td ty tx:TE):TE:=fun σ H Q=>td σ H fun x H1=>∃ a,x=.ref a/\IsD H1 a/\ty σ H1 fun y H2=>tx σ H2 fun z H3=>∃ o,DGet H3 a y o/\Q (o.getD z) H3
section
variable {X:Cx} {o e f:Expr} {apos cpos:Pos} {td ty tx:TE}
theorem pe_dget2 (hu:X.A.units+1<cLine) (ho:PE X o td) (he:PE X e ty) (hf:PE X f tx) (m:M2 X o "get" apos e f cpos):PE X (.Call (.Attribute o "get" apos) [e,f] [] cpos) (tDGet2 td ty tx):=by
 intro pins s σ H Q I h
 refine wpAny_Call_method m.base m.few m.line PySem.F.plainAttrs_dict PySem.F.slot_dict_get PySem.F.type_dict_get (thn (ho pins s σ H _ I h) fun u s1 ⟨x,H1,I1,rx,a,ex,d,q1⟩=>?_)
 subst ex
 obtain rfl:u=Value.ref a:=rx
 obtain⟨t1,t2,_⟩:=isD_at I1 d
 refine⟨t1,t2,?_⟩
 rw [m.trees]
 refine Calls.callWith_builtin rfl (Calls.evalArgs_plain (Calls.spliced_cons (thn (he pins s1 σ H1 _ I1 q1) fun iv s2 ⟨y,H2,I2,ry,q2⟩=>
  Calls.spliced_cons (thn (hf pins s2 σ H2 _ I2 q2) fun fv s3 ⟨z,H3,I3,rz,ov,g,q3⟩=>Calls.spliced_nil ?_))))
 exact d_get2 hu I3 g ry rz fun w' s4 I4 rw'=>⟨_,H3,I4,rw',q3⟩
end
end L2
namespace Rm
open PySem PySem.W PyProof.Rows
section
variable {r:Nat->Int} {N:Nat} {cmp:Nat->Nat->(Bool->Shared->Prop)->Shared->Prop} {s:Shared}
def Told(r:Nat->Int)(N:Nat)(cmp:Nat->Nat->(Bool->Shared->Prop)->Shared->Prop)(s:Shared):Prop:=
 ∀ i j,i<N->j<N->∀ C:Bool->Shared->Prop,C (decide (r i<r j)) s->cmp i j C s
def In(N:Nat)(p:Array Nat):Prop:=p.size=N/\∀ i,p.getD i 0<N
def Kk(r:Nat->Int)(p:Array Nat)(i:Nat):Int:=r (p.getD i 0)
def Asc(r:Nat->Int)(p:Array Nat)(k:Nat):Prop:=∀ i j,i<=j->j<k->Kk r p i<=Kk r p j
def Des(r:Nat->Int)(p:Array Nat)(k:Nat):Prop:=∀ i j,i<=j->j<k->Kk r p j<=Kk r p i
theorem Kk_congr{p q:Array Nat}{i j:Nat}(h:p[i]? = q[j]?):Kk r p i=Kk r q j:=by
 unfold Kk
 rw [Array.getD_eq_getD_getElem?,Array.getD_eq_getD_getElem?,h]
theorem Kk_rev{p:Array Nat}{i j:Nat}(hj:j<=p.size)(k:Nat):Kk r (kas_rev p i j) k=if i<=k/\k<j then Kk r p (i+j - 1 - k) else Kk r p k:=by
 have e:=getElem?_mirror_all (i:=i) hj k
 unfold kas_rev
 by_cases h1:i<=k/\k<j
 ·rw [if_pos h1] at e ⊢;exact Kk_congr e
 ·rw [if_neg h1] at e ⊢;exact Kk_congr e
theorem Kk_bubble{p:Array Nat}{src d:Nat}(hs:src<p.size)(hd:d<=src)(k:Nat):Kk r (bubble p src d) k=if k=src - d then Kk r p src else if src - d<k/\k<=src then Kk r p (k - 1) else Kk r p k:=by
 have e:=getElem?_bubble hs d hd k
 by_cases h1:k=src - d
 ·rw [if_pos h1] at e ⊢;exact Kk_congr e
 ·rw [if_neg h1] at e ⊢
  by_cases h2:src - d<k/\k<=src
  ·rw [if_pos h2] at e ⊢;exact Kk_congr e
  ·rw [if_neg h2] at e ⊢;exact Kk_congr e
theorem In.of_perm{p q:Array Nat}(h:In N p)(hp:q.Perm p):In N q:=by
 refine⟨hp.size_eq.trans h.1,fun i=>?_⟩
 rw [Array.getD_eq_getD_getElem?]
 cases e:q[i]? with
 | none=>
  have:=h.2 N
  rw [Array.getD_eq_getD_getElem?,Array.getElem?_eq_none (Nat.le_of_eq h.1)] at this
  exact this
 | some x=>
  have hx:x∈q:=Array.mem_of_getElem? e
  have hx':x∈p:=hp.mem_iff.mp hx
  obtain⟨j,hj,rfl⟩:=Array.mem_iff_getElem.mp hx'
  have:=h.2 j
  rw [Array.getD_eq_getD_getElem?,Array.getElem?_eq_getElem hj] at this
  exact this
theorem In.rev{p:Array Nat}(h:In N p)(i j:Nat):In N (kas_rev p i j):=h.of_perm (mirror_perm _ _ _ _)
theorem asc_spec(T:Told r N cmp s){G:Nat->Shared->Prop}{p:Array Nat}(hp:In N p):∀ (f n:Nat),1<=n->Asc r p n->(∀ m,n<=m->m<=n+f->Asc r p m->(m<n+f->Kk r p m<Kk r p (m - 1))->G m s)->(kas_asc p f n).kasWp cmp G s
 | 0,n,_,ha,hG=>hG n (Nat.le_refl _) (Nat.le_refl _) ha (fun h=>absurd h (by omega))
 | f+1,n,h1,ha,hG=>by
  refine T _ _ (hp.2 _) (hp.2 _) _ ?_
  by_cases c:Kk r p n<Kk r p (n - 1)
  ·have c':r (p.getD n 0)<r (p.getD (n - 1) 0):=c
   rw [decide_eq_true c']
   exact hG n (Nat.le_refl _) (by omega) ha fun _=>c
  ·have c':¬ r (p.getD n 0)<r (p.getD (n - 1) 0):=c
   rw [decide_eq_false c']
   refine asc_spec T hp f (n+1) (by omega) (fun i j hij hj=>?_) fun m a b c2 d=>hG m (by omega) (by omega) c2 fun e=>d (by omega)
   by_cases e:j=n
   ·subst e
    by_cases e2:i=j
    ·subst e2;exact Int.le_refl _
    ·have:=ha i (j - 1) (by omega) (by omega)
     omega
   ·exact ha i j hij (by omega)
def Tail(r:Nat->Int)(p:Array Nat)(n q:Nat):Prop:=q<n/\∀ k,n - (q+1)<=k->k<n->Kk r p k=Kk r p (n - 1)
theorem rev_tail{p:Array Nat}{n q:Nat}(hn:n<=p.size)(h:Tail r p n q)(k:Nat):Kk r (kas_rev p (n - (q+1)) n) k=Kk r p k:=by
 rw [Kk_rev hn]
 split
 ·rw [h.2 _ (by have:=h.1;omega) (by omega),h.2 k (by omega) (by omega)]
 ·rfl
theorem Des.same{p p':Array Nat}{n:Nat}(h:Des r p n)(e:∀ k,Kk r p' k=Kk r p k):Des r p' n:=fun i j a b=>by rw [e,e];exact h i j a b
theorem desc_spec(T:Told r N cmp s){G:Array Nat×Nat×Nat->Shared->Prop}:∀ (f:Nat) (p:Array Nat) (n q:Nat),In N p->n+f<=N->Des r p n->Tail r p n q →
  (∀ p' n' q',p'.Perm p->n<=n'->n'<=n+f->Des r p' n'->Tail r p' n' q'->G (p',n',q') s)->(kas_desc f p n q).kasWp cmp G s
 | 0,p,n,q,_,_,hd,ht,hG=>hG p n q (.refl _) (Nat.le_refl _) (Nat.le_refl _) hd ht
 | f+1,p,n,q,hp,hN,hd,ht,hG=>by
  refine T _ _ (hp.2 _) (hp.2 _) _ ?_
  by_cases c:Kk r p n<Kk r p (n - 1)
  ·have c':r (p.getD n 0)<r (p.getD (n - 1) 0):=c
   rw [decide_eq_true c']
   have hq:=ht.1
   have grow:∀ p':Array Nat,p'.Perm p->(∀ k,Kk r p' k=Kk r p k)->(kas_desc f p' (n+1) 0).kasWp cmp G s:=fun p' hpp e=>by
    refine desc_spec T f p' (n+1) 0 (hp.of_perm hpp) (by omega) (fun i j hij hj=>?_) ⟨by omega,fun k h1 h2=>by have e9:k=n:=(by omega);rw [e9];rfl⟩ fun p2 n2 q2 a b c2 d e2=>hG p2 n2 q2 (a.trans hpp) (by omega) (by omega) d e2
    rw [e,e]
    by_cases e3:j=n
    ·subst e3
     by_cases e4:i=j
     ·subst e4;exact Int.le_refl _
     ·have:=hd i (j - 1) (by omega) (by omega)
      omega
    ·exact hd i j hij (by omega)
   show KasT.kasWp cmp (if true=true then (if q > 0 then kas_desc f (kas_rev p (n - (q+1)) n) (n+1) 0 else kas_desc f p (n+1) 0) else _) G s
   rw [if_pos rfl]
   split
   ·exact grow _ (mirror_perm _ _ _ _) (rev_tail (by rw [hp.1];omega) ht)
   ·exact grow p (.refl _) fun _=>rfl
  ·have c':¬ r (p.getD n 0)<r (p.getD (n - 1) 0):=c
   rw [decide_eq_false c']
   show KasT.kasWp cmp (if false=true then _ else KasT.ask (p.getD (n - 1) 0) (p.getD n 0) fun d=>if d=true then .ret (p,n,q) else kas_desc f p (n+1) (q+1)) G s
   rw [if_neg (by simp)]
   refine T _ _ (hp.2 _) (hp.2 _) _ ?_
   by_cases d:Kk r p (n - 1)<Kk r p n
   ·have d':r (p.getD (n - 1) 0)<r (p.getD n 0):=d
    rw [decide_eq_true d']
    exact hG p n q (.refl _) (Nat.le_refl _) (by omega) hd ht
   ·have d':¬ r (p.getD (n - 1) 0)<r (p.getD n 0):=d
    rw [decide_eq_false d']
    have hq:=ht.1
    have eq:Kk r p n=Kk r p (n - 1):=by omega
    refine desc_spec T f p (n+1) (q+1) hp (by omega) (fun i j hij hj=>?_) ⟨by omega,fun k h1 h2=>?_⟩ fun p2 n2 q2 a b c2 d2 e2=>hG p2 n2 q2 a (by omega) (by omega) d2 e2
    ·by_cases e3:j=n
     ·subst e3
      by_cases e4:i=j
      ·subst e4;exact Int.le_refl _
      ·have:=hd i (j - 1) (by omega) (by omega)
       omega
     ·exact hd i j hij (by omega)
    ·show Kk r p k=Kk r p n
     by_cases e3:k=n
     ·rw [e3]
     ·rw [eq];exact ht.2 k (by omega) (by omega)
def Cnt(r:Nat->Int)(p:Array Nat)(nrem:Nat)(G:Nat×Array Nat->Shared->Prop)(s:Shared):Prop:=∀ n p',p'.Perm p->1<=n->n<=nrem->Asc r p' n->G (n,p') s
theorem tail3_spec(T:Told r N cmp s){G:Nat×Array Nat->Shared->Prop}{p:Array Nat}{n:Nat}(hp:In N p)(h1:1<=n)(hn:n<=N)(hd:Des r p n)(hG:Cnt r p N G s):(kas_tail3 n N p).kasWp cmp G s:=by
 unfold kas_tail3
 rw [KasT.kasWp_bind]
 refine asc_spec T (hp.rev 0 n) (N - n) n h1 (fun i j hij hj=>?_) fun m a b c _=>hG m _ (mirror_perm _ _ _ _) (by omega) (by omega) c
 rw [Kk_rev (by rw [hp.1];exact hn),Kk_rev (by rw [hp.1];exact hn),if_pos (by omega),if_pos (by omega)]
 exact hd _ _ (by omega) (by omega)
theorem Cnt.perm{p q:Array Nat}{G:Nat×Array Nat->Shared->Prop}(h:Cnt r p N G s)(hp:q.Perm p):Cnt r q N G s:=fun n p' a b c d=>h n p' (a.trans hp) b c d
theorem descPart_spec(T:Told r N cmp s){G:Nat×Array Nat->Shared->Prop}{p:Array Nat}{n:Nat}(hp:In N p)(hn:n+1<=N)(h1:1<=n)(hd:Des r p (n+1))(hG:Cnt r p N G s):(kas_descPart n N p).kasWp cmp G s:=by
 unfold kas_descPart
 rw [KasT.kasWp_bind]
 refine desc_spec T _ p (n+1) 0 hp (by omega) hd ⟨by omega,fun k a b=>by have e9:k=n:=(by omega);rw [e9];rfl⟩ fun p' n' q' a b c d e=>?_
 dsimp only
 have hp':=hp.of_perm a
 split
 ·exact tail3_spec T (hp'.rev _ _) (by omega) (by omega) (d.same (rev_tail (by rw [hp'.1];omega) e)) (hG.perm ((mirror_perm _ _ _ _).trans a))
 ·exact tail3_spec T hp' (by omega) (by omega) d (hG.perm a)
theorem count_spec(T:Told r N cmp s){G:Nat×Array Nat->Shared->Prop}{p:Array Nat}(hp:In N p)(hN:1<=N)(hG:Cnt r p N G s):(kas_count N p).kasWp cmp G s:=by
 unfold kas_count
 rw [KasT.kasWp_bind]
 refine asc_spec T hp (N - 1) 1 (Nat.le_refl _) (fun i j a b=>by have e9:i=j:=(by omega);rw [e9];exact Int.le_refl _) fun n h1 h2 ha hb=>?_
 by_cases e:n=N
 ·subst e
  rw [if_pos (by simp)]
  exact hG n p (.refl _) h1 (Nat.le_refl _) ha
 ·rw [if_neg (by simp [e])]
  have hlt:=hb (by omega)
  split
  ·refine T _ _ (hp.2 _) (hp.2 _) _ ?_
   by_cases c:Kk r p 0<Kk r p (n - 1)
   ·have c':r (p.getD 0 0)<r (p.getD (n - 1) 0):=c
    rw [decide_eq_true c']
    exact hG n p (.refl _) h1 (by omega) ha
   ·have c':¬ r (p.getD 0 0)<r (p.getD (n - 1) 0):=c
    rw [decide_eq_false c']
    have alike:∀ k,k<n->Kk r p k=Kk r p (n - 1):=fun k hk=>by
     have a1:=ha 0 k (by omega) hk
     have a2:=ha k (n - 1) (by omega) (by omega)
     omega
    have same:∀ k,Kk r (kas_rev p 0 n) k=Kk r p k:=fun k=>by
     rw [Kk_rev (by rw [hp.1];omega)]
     split
     ·rw [alike _ (by omega),alike k (by omega)]
     ·rfl
    refine descPart_spec T (hp.rev 0 n) (by omega) h1 (Des.same (p:=p) (fun i j hij hj=>?_) same) (hG.perm (mirror_perm _ _ _ _))
    by_cases e3:j=n
    ·subst e3
     by_cases e4:i=j
     ·subst e4;exact Int.le_refl _
     ·rw [alike i (by omega)];omega
    ·rw [alike i (by omega),alike j (by omega)];exact Int.le_refl _
  ·have:n=1:=by omega
   subst this
   refine descPart_spec T hp (by omega) (Nat.le_refl _) (fun i j hij hj=>?_) hG
   have hj':j=0\/j=1:=by omega
   have hi':i=0\/i=1:=by omega
   rcases hj' with rfl | rfl<;>rcases hi' with rfl | rfl
   ·exact Int.le_refl _
   ·omega
   ·have:Kk r p 1<Kk r p 0:=hlt
    omega
   ·exact Int.le_refl _
theorem place_spec(T:Told r N cmp s){G:Nat->Shared->Prop}{p:Array Nat}{k:Nat}(hp:In N p)(hs:Asc r p k):∀ (f l e:Nat),e<=k->e<=l+f->l<=e->(∀ i,i<l->Kk r p i<=Kk r p k)->(∀ i,e<=i->i<k->Kk r p k<Kk r p i) →
  (∀ l,l<=k->(∀ i,i<l->Kk r p i<=Kk r p k)->(∀ i,l<=i->i<k->Kk r p k<Kk r p i)->G l s)->(kas_place p k f l e).kasWp cmp G s
 | 0,l,e,h1,h2,h3,h4,h5,hG=>by
  have:l=e:=by omega
  subst this
  exact hG l h1 h4 h5
 | f+1,l,e,h1,h2,h3,h4,h5,hG=>by
  unfold kas_place
  split
  ·have:l=e:=by omega
   subst this
   exact hG l h1 h4 h5
  ·refine T _ _ (hp.2 _) (hp.2 _) _ ?_
   by_cases c:Kk r p k<Kk r p ((l+e) / 2)
   ·have c':r (p.getD k 0)<r (p.getD ((l+e) / 2) 0):=c
    rw [decide_eq_true c']
    refine place_spec T hp hs f l ((l+e) / 2) (by omega) (by omega) (by omega) h4 (fun i a b=>?_) hG
    have:=hs ((l+e) / 2) i a b
    omega
   ·have c':¬ r (p.getD k 0)<r (p.getD ((l+e) / 2) 0):=c
    rw [decide_eq_false c']
    refine place_spec T hp hs f ((l+e) / 2+1) e h1 (by omega) (by omega) (fun i a=>?_) h5 hG
    have:=hs i ((l+e) / 2) (by omega) (by omega)
    omega
theorem bubble_asc{p:Array Nat}{k l:Nat}(hk:k<p.size)(hs:Asc r p k)(hl:l<=k)(h1:∀ i,i<l->Kk r p i<=Kk r p k)(h2:∀ i,l<=i->i<k->Kk r p k<Kk r p i):Asc r (bubble p k (k - l)) (k+1):=fun i j hij hj=>by
 rw [Kk_bubble hk (by omega),Kk_bubble hk (by omega)]
 have e:k - (k - l)=l:=by omega
 rw [e]
 by_cases i1:i=l
 ·rw [if_pos i1]
  by_cases j1:j=l
  ·rw [if_pos j1];exact Int.le_refl _
  ·rw [if_neg j1,if_pos (by omega)]
   have:=h2 (j - 1) (by omega) (by omega);omega
 ·rw [if_neg i1]
  by_cases i2:l<i/\i<=k
  ·rw [if_pos i2,if_neg (by omega),if_pos (by omega)]
   exact hs _ _ (by omega) (by omega)
  ·rw [if_neg i2]
   by_cases j1:j=l
   ·rw [if_pos j1];exact h1 i (by omega)
   ·rw [if_neg j1]
    by_cases j2:l<j/\j<=k
    ·rw [if_pos j2];exact hs _ _ (by omega) (by omega)
    ·rw [if_neg j2];exact hs _ _ (by omega) (by omega)
theorem bin_spec(T:Told r N cmp s){G:Array Nat->Shared->Prop}:∀ (f:Nat) (p:Array Nat) (k:Nat),In N p->k+f=N->Asc r p k->(∀ p',p'.Perm p->Asc r p' N->G p' s)->(kas_bin f p k).kasWp cmp G s
 | 0,p,k,hp,hk,hs,hG=>hG p (.refl _) (by have e9:k=N:=(by omega);rw [<-e9];exact hs)
 | f+1,p,k,hp,hk,hs,hG=>by
  unfold kas_bin
  rw [KasT.kasWp_bind]
  refine place_spec T hp hs k 0 k (Nat.le_refl _) (by omega) (by omega) (fun i h=>absurd h (by omega)) (fun i h h'=>absurd h' (by omega)) fun l h1 h2 h3=>?_
  refine bin_spec T f _ (k+1) (hp.of_perm (bubble_perm _ _ _)) (by omega) (bubble_asc (by rw [hp.1];omega) hs h1 h2 h3) fun p' a b=>hG p' (a.trans (bubble_perm _ _ _)) b
theorem sort_spec(T:Told r N cmp s){G:Array Nat->Shared->Prop}(hN:1<=N)(hG:∀ p:Array Nat,p.Perm (List.toArray (List.range N))->Asc r p N->G p s):(kas_sort N).kasWp cmp G s:=by
 have h0:In N (List.toArray (List.range N)):=⟨by simp,fun i=>by
  rw [Array.getD_eq_getD_getElem?]
  cases e:(List.toArray (List.range N))[i]? with
  | none=>exact hN
  | some x=>
   have:=Array.mem_of_getElem? e
   simpa using this⟩
 unfold kas_sort
 rw [KasT.kasWp_bind]
 refine count_spec T h0 hN fun n p a b c d=>?_
 dsimp only
 have hp:=h0.of_perm a
 split
 ·have e:max n 1=n:=by omega
  rw [e]
  exact bin_spec T _ p n hp (by omega) d fun p' x y=>hG p' (x.trans a) y
 ·have:n=N:=by omega
  subst this
  exact hG p a d
end
end Rm
namespace Rm
open PySem PySem.W PyProof.Rows
section
variable {prog:Program} {w:World} {A:Around} {E:Value->Shared->Prop} {s:Shared}
def outOf(vs:List Value)(p:Array Nat):Array Value:=List.toArray (p.toList.map fun i=>vs.getD i Value.none)
theorem small_out:∀ vs:List Value,vs.length<2->(vs.toArray.zip vs.toArray).map (·.2)=outOf vs (List.toArray (List.range vs.length))
 | [],_=>by simp [outOf]
 | [v],_=>by simp [outOf]
 | _::_::_,h=>by simp at h;omega
def Kp(a:Addr)(h h':Heap):Prop:=∀ b o,b≠a->h.get? b=some o->h'.get? b=some o
theorem list_sort_rank {a:Addr} {vs:List Value} {n:Nat} {P:PySem.Fin->Shared->Prop} {r:Nat->Int} (κ:SortKind) (ho:s.heap.get? a=some (seqObj "list" vs.toArray n)) (h64:vs.length<64)
  (hk:2<=vs.length->∀ (h':Heap) (Q:SortKind->Shared->Prop),Kp a s.heap h'->Q κ { s with heap:=h' }->wpAny (model prog w) A (keyKind' vs.toArray) Q E { s with heap:=h' })
  (hc:∀ i j,i<vs.length->j<vs.length->∀ (h':Heap) (C:Bool->Shared->Prop),Kp a s.heap h'->C (decide (r i<r j)) { s with heap:=h' }->wpAny (model prog w) A (keyLt' κ (vs.getD i Value.none) (vs.getD j Value.none)) C (fun _ _=>False) { s with heap:=h' })
  (h:∀ p:Array Nat,p.Perm (List.toArray (List.range vs.length))->Asc r p vs.length->P (.done (.ret .none)) { s with heap:=sortedHeap s.heap a vs (outOf vs p) }) :
  wpAny (model prog w) A (Builtin.«list.sort» ⟨[.ref a],[]⟩) P E s:=by
 rw [list_sort_plain]
 have ha:a<s.heap.objs.size:=Heap.lt_size ho
 refine wpAny_bind (listItems_at ho rfl ?_)
 refine wpAny_bind (listUpdate_at ho rfl ?_)
 obtain⟨e1,ho1⟩:∃ e1,(s.heap.update a (Obj.mapSeq fun _=>#[])).get? a=some (seqObj "list" #[] e1):=⟨_,get?_update_seq ho (fun _=>#[])⟩
 refine wpAny_bind (seqEpoch_at ho1 rfl ?_)
 refine wpAny_bind (wpAny_newTuple ?_)
 refine wpAny_bind (wpAny_newList ?_)
 refine wpAny_holding ?_
 have ho6:(((s.heap.update a (Obj.mapSeq fun _=>#[])).push (seqObj "tuple" vs.toArray 0)).push (seqObj "list" #[] 0)).get? a=some (seqObj "list" #[] e1):=by
  rw [Heap.get?_push_ne _ _ _ (by rw [size_push',Heap.size_update];exact Nat.ne_of_lt (Nat.lt_succ_of_lt ha)),Heap.get?_push_ne _ _ _ (by rw [Heap.size_update];exact Nat.ne_of_lt ha)]
  exact ho1
 have kp6:Kp a s.heap (((s.heap.update a (Obj.mapSeq fun _=>#[])).push (seqObj "tuple" vs.toArray 0)).push (seqObj "list" #[] 0)):=fun b o hb e=>
  Heap.get?_push_of_some _ (Heap.get?_push_of_some _ (by rw [Heap.get?_update_ne _ _ _ _ hb];exact e))
 show wpAny (model prog w) A _ P E { s with heap:=((s.heap.update a (Obj.mapSeq fun _=>#[])).push (seqObj "tuple" vs.toArray 0)).push (seqObj "list" #[] 0) }
 dsimp only
 have hsz:vs.toArray.size=vs.length:=by simp
 by_cases h2:vs.toArray.size<2
 ·rw [if_pos h2,if_pos h2]
  refine wpAny_bind (wpAny_pure ?_)
  rw [StateT.run_pure]
  refine wpAny_bind (wpAny_pure ?_)
  dsimp only
  refine wpAny_bind (seqEpoch_at ho6 rfl ?_)
  refine wpAny_bind (listUpdate_at ho6 rfl ?_ (hsz2:=by rw [Array.size_map];show (pairsOf vs).size<=_;rw [pairsOf_size,sizeLine_eq];omega))
  simp only [bne_self_eq_false,Bool.false_eq_true,if_false]
  have e:(arrOf (SortSt.mk' general' (vs.toArray.zip vs.toArray) #[] 7 none)).map (·.2)=outOf vs (List.toArray (List.range vs.length)):=by
   exact small_out vs (by omega)
  rw [e]
  refine wpAny_pure (h (List.toArray (List.range vs.length)) (Array.Perm.refl _) ?_)
  intro i j hij hj
  have e9:i=j:=by omega
  rw [e9];exact Int.le_refl _
 ·rw [if_neg h2,if_neg h2]
  refine wpAny_bind (hk (by omega) _ _ kp6 ?_)
  have T:Told r vs.length (kas_ask prog w A κ vs) { s with heap:=((s.heap.update a (Obj.mapSeq fun _=>#[])).push (seqObj "tuple" vs.toArray 0)).push (seqObj "list" #[] 0) }:=fun i j hi hj C hC=>hc i j hi hj _ C kp6 hC
  refine wpAny_bind (wpAny_mono (kat_run (ks:=vs) (vs:=vs) (Q:=fun st' s'=>s'={ s with heap:=((s.heap.update a (Obj.mapSeq fun _=>#[])).push (seqObj "tuple" vs.toArray 0)).push (seqObj "list" #[] 0) }/\∃ p:Array Nat,p.size=vs.length/\arrOf st'=p.map (kas_item (vs.toArray.zip vs.toArray))/\failedOf st'=none/\p.Perm (List.toArray (List.range vs.length))/\Asc r p vs.length)
   (G:=fun p s'=>s'={ s with heap:=((s.heap.update a (Obj.mapSeq fun _=>#[])).push (seqObj "tuple" vs.toArray 0)).push (seqObj "list" #[] 0) }/\p.Perm (List.toArray (List.range vs.length))/\Asc r p vs.length)
   rfl (by omega) h64 (fun p' st' s' a1 a2 a3 a4=>⟨a4.1,p',a1,a2,a3,a4.2⟩) (sort_spec T (by omega) fun p hp ha=>⟨rfl,hp,ha⟩)) ?_ fun _ _ e=>e)
  rintro⟨⟨⟩,st'⟩ s' ⟨rfl,p,hps,har,hf,hp,hs⟩
  dsimp only
  have hout:=kat_snds (ks:=vs) (vs:=vs) rfl har
  rw [hout]
  refine wpAny_bind (seqEpoch_at ho6 rfl ?_)
  refine wpAny_bind (listUpdate_at ho6 rfl ?_ (hsz2:=by rw [List.size_toArray,List.length_map,Array.length_toList,hps,sizeLine_eq];omega))
  rw [hf]
  simp only [bne_self_eq_false,Bool.false_eq_true,if_false]
  exact wpAny_pure (h p hp hs)
theorem sorted_rank_of {l:Addr} {vs:List Value} {Q:Value->Shared->Prop} {r:Nat->Int} (κ:SortKind) (hcol:∀ (A:Around) (E:Value->Shared->Prop) (Q:List Value->Shared->Prop),Q vs { s with heap:=(s.heap.push (seqObj "list" #[] 0)).update s.heap.objs.size (Obj.mapSeq (·++vs.toArray)) }->wpAny (model prog w) A (collect (.ref l)) Q E s) (h64:vs.length<64)
  (hk:2<=vs.length->∀ (h':Heap) (Q:SortKind->Shared->Prop),(∀ b o,s.heap.get? b=some o->h'.get? b=some o)->Q κ { s with heap:=h' }->wpAny (model prog w) A.in1.in1 (keyKind' vs.toArray) Q (fun _ _=>False) { s with heap:=h' })
  (hc:∀ i j,i<vs.length->j<vs.length->∀ (h':Heap) (C:Bool->Shared->Prop),(∀ b o,s.heap.get? b=some o->h'.get? b=some o)->C (decide (r i<r j)) { s with heap:=h' }->wpAny (model prog w) A.in1.in1 (keyLt' κ (vs.getD i Value.none) (vs.getD j Value.none)) C (fun _ _=>False) { s with heap:=h' })
  (h:∀ p:Array Nat,p.Perm (List.toArray (List.range vs.length))->Asc r p vs.length->Q (.ref (s.heap.objs.size+1)) { s with heap:=sortedAll s.heap vs (outOf vs p) }) :
  wpAny (model prog w) A (call (.builtin "sorted") [.ref l]) Q E s:=by
 refine Calls.call_function_entry kind_sorted plain_sorted entry_sorted (args_sorted1 _) ?_
 unfold Builtin.«sorted»
 refine wpAny_bind (m:=checkCount "sorted" 1 1 _) (wpAny_pure ?_)
 refine wpAny_bind (hcol _ _ _ ?_)
 refine wpAny_bind (wpAny_newList ?_)
 have hsz:((s.heap.push (seqObj "list" #[] 0)).update s.heap.objs.size (Obj.mapSeq (·++vs.toArray))).objs.size=s.heap.objs.size+1:=by
  rw [Heap.size_update,size_push']
 have hoL:(((s.heap.push (seqObj "list" #[] 0)).update s.heap.objs.size (Obj.mapSeq (·++vs.toArray))).push (seqObj "list" vs.toArray 0)).get? (s.heap.objs.size+1)=some (seqObj "list" vs.toArray 0):=by
  rw [<-hsz];exact Heap.get?_push_size _ rfl
 have keep:∀ b o,s.heap.get? b=some o->(((s.heap.push (seqObj "list" #[] 0)).update s.heap.objs.size (Obj.mapSeq (·++vs.toArray))).push (seqObj "list" vs.toArray 0)).get? b=some o:=fun b o q=>by
  have hlt:b<s.heap.objs.size:=Heap.lt_size q
  rw [Heap.get?_push_ne _ _ _ (by rw [hsz];exact Nat.ne_of_lt (Nat.lt_succ_of_lt hlt)),Heap.get?_update_ne _ _ _ _ (Nat.ne_of_lt hlt),Heap.get?_push_ne _ _ _ (Nat.ne_of_lt hlt)]
  exact q
 have keep2:∀ h',Kp (s.heap.objs.size+1) (((s.heap.push (seqObj "list" #[] 0)).update s.heap.objs.size (Obj.mapSeq (·++vs.toArray))).push (seqObj "list" vs.toArray 0)) h'->∀ b o,s.heap.get? b=some o->h'.get? b=some o:=fun h' k b o q=>
  k b o (Nat.ne_of_lt (Nat.lt_succ_of_lt (Heap.lt_size q))) (keep b o q)
 show wpAny _ _ _ _ _ { s with heap:=((s.heap.push (seqObj "list" #[] 0)).update s.heap.objs.size (Obj.mapSeq (·++vs.toArray))).push (seqObj "list" vs.toArray 0) }
 rw [hsz]
 refine wpAny_bind (wpAny_holding (wpAny_call_entry slot_list_sort ⟨_,hoL,rfl⟩ entry_list_sort (list_sort_rank (r:=r) κ hoL h64 (fun h2 h' Q k q=>?_) (fun i j hi hj h' C k q=>?_) fun p hp ha=>⟨_,rfl,?_⟩) (args_list_sort _)))
 ·exact wpAny_mono (hk h2 h' Q (keep2 h' k) q) (fun _ _ z=>z) fun _ _ z=>z.elim
 ·exact hc i j hi hj h' C (keep2 h' k) q
 ·exact wpAny_pure ⟨_,rfl,h p hp ha⟩
theorem sorted_rank{l:Addr}{vs:List Value}{Q:Value->Shared->Prop}{r:Nat->Int}(κ:SortKind)(hl:s.heap.IsList l vs.toArray)(h64:vs.length<64)
  (hk:2<=vs.length->∀ (h':Heap) (Q:SortKind->Shared->Prop),(∀ b o,s.heap.get? b=some o->h'.get? b=some o)->Q κ { s with heap:=h' }->wpAny (model prog w) A.in1.in1 (keyKind' vs.toArray) Q (fun _ _=>False) { s with heap:=h' })
  (hc:∀ i j,i<vs.length->j<vs.length->∀ (h':Heap) (C:Bool->Shared->Prop),(∀ b o,s.heap.get? b=some o->h'.get? b=some o)->C (decide (r i<r j)) { s with heap:=h' }->wpAny (model prog w) A.in1.in1 (keyLt' κ (vs.getD i Value.none) (vs.getD j Value.none)) C (fun _ _=>False) { s with heap:=h' })
  (h:∀ p:Array Nat,p.Perm (List.toArray (List.range vs.length))->Asc r p vs.length->Q (.ref (s.heap.objs.size+1)) { s with heap:=sortedAll s.heap vs (outOf vs p) }) :
  wpAny (model prog w) A (call (.builtin "sorted") [.ref l]) Q E s:=
 sorted_rank_of κ (fun A E Q q=>collect_list hl q (by rw [sizeLine_eq];omega)) h64 hk hc h
theorem collect_tup{l:Addr}{vs:List Value}{Q:List Value->Shared->Prop}(hl:IsTup s.heap l vs.toArray)
  (h:Q vs { s with heap:=(s.heap.push (seqObj "list" #[] 0)).update s.heap.objs.size (Obj.mapSeq (·++vs.toArray)) }) (hsz:vs.length<=sizeLine) :
  wpAny (model prog w) A (collect (.ref l)) Q E s:=by
 obtain⟨o,ho,hc,n,hd⟩:=id hl
 unfold collect
 refine wpAny_bind (wpAny_runValue (codeAny_builtin entry_proto_collect' ?_))
 show wpAny _ _ (do again (.builtin "list.__iadd__" ⟨[<-newList [],.ref l],[]⟩)) _ _ s
 refine wpAny_bind (wpAny_newList (wpAny_pure ⟨Code.quiet_builtin _ (by decide +kernel),codeAny_builtin entry_list_iadd' ?_⟩))
 show wpAny _ _ (Builtin.List.listExtendWith (.ref s.heap.objs.size) (.ref l) (.ref s.heap.objs.size)) _ _ { s with heap:=s.heap.push (seqObj "list" #[] 0) }
 unfold Builtin.List.listExtendWith
 have ho':(s.heap.push (seqObj "list" #[] 0)).get? l=some o:=Heap.get?_push_of_some _ ho
 refine wpAny_bind (wpAny_typeOf (T:="tuple") ⟨o,ho',hc⟩ ?_)
 have ht:(Value.type "tuple"==Value.type "tuple")=true:=by rfl
 rw [if_pos (by rw [ht];simp)]
 refine wpAny_bind (listItems_at ho' hd ?_)
 refine wpAny_bind (listItems_at (xs:=#[]) (n:=0) (Heap.get?_push_size _ rfl) rfl ?_)
 rw [if_neg (by simp)]
 refine wpAny_bind (listUpdate_at (xs:=#[]) (n:=0) (Heap.get?_push_size _ rfl) rfl ?_ (Nat.zero_le _) (by show (#[]++vs.toArray).size<=sizeLine+1;simp only [Array.size_append,List.size_toArray,List.length_nil];omega))
 refine wpAny_pure ?_
 show wpAny (model prog w) A (do
   let o <-load s.heap.objs.size
   match o.data with
   | .seq xs _=>pure xs.toList
   | _=>unsupported "internal:collect") Q E { s with heap:=(s.heap.push (seqObj "list" #[] 0)).update s.heap.objs.size (Obj.mapSeq (·++vs.toArray)) }
 refine wpAny_bind (wpAny_load (get?_update_seq (Heap.get?_push_size _ rfl) _) ?_)
 show wpAny _ _ (pure ((#[]:Array Value)++vs.toArray).toList) Q E _
 rw [show ((#[]:Array Value)++vs.toArray).toList=vs by simp]
 exact wpAny_pure h
theorem sorted_rankT{l:Addr}{vs:List Value}{Q:Value->Shared->Prop}{r:Nat->Int}(κ:SortKind)(hl:IsTup s.heap l vs.toArray)(h64:vs.length<64)
  (hk:2<=vs.length->∀ (h':Heap) (Q:SortKind->Shared->Prop),(∀ b o,s.heap.get? b=some o->h'.get? b=some o)->Q κ { s with heap:=h' }->wpAny (model prog w) A.in1.in1 (keyKind' vs.toArray) Q (fun _ _=>False) { s with heap:=h' })
  (hc:∀ i j,i<vs.length->j<vs.length->∀ (h':Heap) (C:Bool->Shared->Prop),(∀ b o,s.heap.get? b=some o->h'.get? b=some o)->C (decide (r i<r j)) { s with heap:=h' }->wpAny (model prog w) A.in1.in1 (keyLt' κ (vs.getD i Value.none) (vs.getD j Value.none)) C (fun _ _=>False) { s with heap:=h' })
  (h:∀ p:Array Nat,p.Perm (List.toArray (List.range vs.length))->Asc r p vs.length->Q (.ref (s.heap.objs.size+1)) { s with heap:=sortedAll s.heap vs (outOf vs p) }) :
  wpAny (model prog w) A (call (.builtin "sorted") [.ref l]) Q E s:=
 sorted_rank_of κ (fun A E Q q=>collect_tup hl q (by rw [sizeLine_eq];omega)) h64 hk hc h
end
end Rm
namespace Rm
open PySem PySem.W PyProof.Rows L2
theorem vals_refs:∀ {as:List Addr} {us:List Value},Vals (as.map V.ref) us->us=as.map Value.ref
 | [],_,.nil=>rfl
 | a::as,u::us,.cons r t=>by
  have e:u=Value.ref a:=r
  rw [e,vals_refs t];rfl
theorem refs_vals(as:List Addr):Vals (as.map V.ref) (as.map Value.ref):=by
 induction as with
 | nil=>exact .nil
 | cons a as ih=>exact .cons rfl ih
def Two (h:Heap) (a:Addr) (p:Bw):Prop:=∃ o t u n,h.get? a=some o/\o.cls=.type "tuple"/\o.data=.seq #[.int p.1 t,.int p.2 u] n
theorem two_of{X:Cx}{pins:List (Addr×Obj)}{σ:L2.St}{H:Hp}{s:Shared}(I:Inv X pins σ H s){a:Addr}{p:Bw}(h:tupAt H a p):Two s.heap a p:=by
 obtain⟨_,its,v,o,e,c,n,d⟩:=I.hok a _ h
 obtain⟨u,w,rfl,⟨t,rfl⟩,t',rfl⟩:=Vals.two v
 exact⟨o,t,t',n,e,c,by rw [d]⟩
theorem Two.kept{h h':Heap}{a:Addr}{p:Bw}(x:Two h a p)(k:∀ b o,h.get? b=some o->h'.get? b=some o):Two h' a p:=by
 obtain⟨o,t,u,n,e,c,d⟩:=x
 exact⟨o,t,u,n,k _ _ e,c,d⟩
theorem two_tups{h:Heap}:∀ {as:List Addr} {ps:List Bw},Paired (Two h) as ps->∃ fs,KatTups h (as.map Value.ref) fs/\fs.length=as.length/\∀ v∈fs,∃ n t,v=Value.int n t
 | _,_,.nil=>⟨[],KatTups.nil,rfl,(fun v hv=>nomatch hv)⟩
 | _,_,.cons r t=>by
  obtain⟨o,t1,u1,n,e,c,d⟩:=r
  obtain⟨fs,h1,h2,h3⟩:=two_tups t
  exact⟨.int _ t1::fs,KatTups.cons e c d rfl h1,by simp [h2],fun v hv=>by
   rcases List.mem_cons.mp hv with rfl | hv
   ·exact⟨_,_,rfl⟩
   ·exact h3 v hv⟩
def rankB(p:Bw):Int:=p.1 * 1000+p.2
def kB:SortKind:=tuples' (Value.type "int" != Value.type "tuple")
theorem two_lt{prog:Program}{w:World}{A:Around}{s:Shared}{a b:Addr}{p q:Bw}{C:Bool->Shared->Prop}(ha:Two s.heap a p)(hb:Two s.heap b q)(hp:0<=p.2/\p.2<1000)(hq:0<=q.2/\q.2<1000)
  (h:C (decide (rankB p<rankB q)) s):wpAny (model prog w) A (keyLt' kB (.ref a) (.ref b)) C (fun _ _=>False) s:=by
 obtain⟨oa,t,u,n,ea,ca,da⟩:=ha
 obtain⟨ob,t',u',n',eb,cb,db⟩:=hb
 refine kat_lt ea da eb db ?_
 show KatLex prog w A _ _ C [(Value.int p.1 t,Value.int q.1 t'),(Value.int p.2 u,Value.int q.2 u')] 0 s
 refine kat_cons (wpAny_eqBool_int (kat_go (fun e=>?_) (fun e=>?_)))
 ·have e1:p.1=q.1:=by simpa using e
  refine kat_yes (kat_cons (wpAny_eqBool_int (kat_go (fun e=>?_) (fun e=>?_))))
  ·have e2:p.2=q.2:=by simpa using e
   refine kat_yes (kat_nil ?_)
   have z:decide (rankB p<rankB q)=false:=decide_eq_false (by unfold rankB;omega)
   rw [z] at h
   exact h
  ·have e2:¬ p.2=q.2:=by simpa using e
   refine kat_no ?_
   have z:decide (rankB p<rankB q)=decide (p.2<q.2):=by
    by_cases y:p.2<q.2
    ·rw [decide_eq_true y,decide_eq_true (by unfold rankB;omega)]
    ·rw [decide_eq_false y,decide_eq_false (by unfold rankB;omega)]
   rw [z] at h
   have b0:((Value.type "int" != Value.type "tuple")&&((0+1:Nat)==0))=false:=by decide
   rw [b0]
   exact kat_one _ _ (lt_int h)
 ·have e1:¬ p.1=q.1:=by simpa using e
  refine kat_no ?_
  have z:decide (rankB p<rankB q)=decide (p.1<q.1):=by
   by_cases y:p.1<q.1
   ·rw [decide_eq_true y,decide_eq_true (by unfold rankB;omega)]
   ·rw [decide_eq_false y,decide_eq_false (by unfold rankB;omega)]
  rw [z] at h
  have b0:((Value.type "int" != Value.type "tuple")&&((0:Nat)==0))=true:=by decide
  rw [b0]
  exact oneLt_int h
def pick{α:Type}(d:α)(xs:List α)(p:Array Nat):List α:=p.toList.map fun i=>xs.getD i d
theorem pick_perm{α:Type}(d:α)(xs:List α){p:Array Nat}(hp:p.Perm (List.toArray (List.range xs.length))):(pick d xs p).Perm xs:=by
 have h1:p.toList.Perm (List.range xs.length):=by simpa using Array.perm_iff_toList_perm.mp hp
 have h2:=h1.map fun i=>xs.getD i d
 have e:(List.range xs.length).map (fun i=>xs.getD i d)=xs:=by
  apply List.ext_getElem
  ·simp
  ·intro i h1 h2
   simp at h1
   simp [h1]
 rw [e] at h2
 exact h2
theorem pick_paired{α β:Type}{R:α->β->Prop}(d:α)(e:β){xs:List α}{ys:List β}(h:Paired R xs ys){p:Array Nat}(hp:∀ i∈p.toList,i<xs.length):Paired R (pick d xs p) (pick e ys p):=by
 unfold pick
 revert hp
 induction p.toList with
 | nil=>intro _;exact .nil
 | cons i r ih=>
  intro hp
  refine .cons ?_ (ih fun j hj=>hp j (List.mem_cons_of_mem _ hj))
  have hi:=hp i List.mem_cons_self
  have hx:xs[i]? = some xs[i]:=List.getElem?_eq_getElem hi
  obtain⟨y,hy,hr⟩:=paired_get h hx
  have e1:xs.getD i d=xs[i]:=by simp [List.getD,hx]
  have e2:ys.getD i e=y:=by simp [List.getD,hy]
  show R (xs.getD i d) (ys.getD i e)
  rw [e1,e2];exact hr
theorem pick_asc{r:Nat->Int}{n:Nat}{p:Array Nat}(hn:p.size=n)(ha:Asc r p n){α:Type}(d:α)(xs:List α)(f:α->Int)(hf:∀ i,r i=f (xs.getD i d)):(pick d xs p).Pairwise fun a b=>f a<=f b:=by
 rw [List.pairwise_iff_getElem]
 intro i j hi hj hij
 have hi':i<p.size:=by simpa [pick] using hi
 have hj':j<p.size:=by simpa [pick] using hj
 have h1:=ha i j (Nat.le_of_lt hij) (by omega)
 unfold Kk at h1
 rw [hf,hf] at h1
 simp only [Array.getD_eq_getD_getElem?,Array.getElem?_eq_getElem hi',Array.getElem?_eq_getElem hj',Option.getD_some] at h1
 simpa [pick] using h1
def leB(p q:Bw):Prop:=p.1<q.1\/p.1=q.1/\p.2<=q.2
def rSortB(K:PySem.W.Frag):List V->Hp->VK->Prop:=fun xs H Q=>∃ (l:Addr) (as:List Addr) (ps:List Bw),xs=[.ref l]/\SqL K H l (as.map V.ref)/\Paired (tupAt H) as ps/\ps.length<64/\(∀ p∈ps,0<=p.2/\p.2<1000) ∧
 ∀ l' as' ps',H l'=none->Paired (tupAt H) as' ps'->ps'.Perm ps->ps'.Pairwise leB->Q (.ref l') (upd H l' (.lst (as'.map V.ref)))
theorem call_sorted_bows {X:Cx}:CallR X (.builtin "sorted") (rSortB X.K):=by
 intro pins s σ H xs us Q I rr h
 obtain⟨l,as,ps,rfl,hq,hP,h64,hb,q⟩:=h
 obtain⟨u,rfl,rx⟩:=vals1 rr
 cases rx
 obtain⟨its,rv,pl,hz⟩:=I.list hq
 have e:=vals_refs rv
 subst e
 have hlen:as.length=ps.length:=Paired.length hP
 have two:Paired (Two s.heap) as ps:=paired_imp hP fun a p z=>two_of I z
 have at_:∀ i,i<as.length->∃ a p,(as.map Value.ref).getD i Value.none=.ref a/\ps.getD i (0,0)=p/\Two s.heap a p/\0<=p.2/\p.2<1000:=fun i hi=>by
  have hx:as[i]? = some as[i]:=List.getElem?_eq_getElem hi
  obtain⟨p,hp,ht⟩:=paired_get two hx
  exact⟨as[i],p,by simp [List.getD,hi],by simp [List.getD,hp],ht,hb p (List.mem_of_getElem? hp)⟩
 refine sorted_rank (r:=fun i=>rankB (ps.getD i (0,0))) kB pl.isList (by rw [List.length_map];omega) (fun h2 h' Q' k q'=>?_) (fun i j hi hj h' C k q'=>?_) fun p hp ha=>?_
 ·obtain⟨fs,k1,k2,k3⟩:=two_tups (paired_imp two fun a p z=>z.kept k)
  refine kat_kind (T:=.type "int") k1 (by rw [List.length_map] at h2;omega) (fun v hv=>?_) rfl q'
  obtain⟨n,t,rfl⟩:=k3 v hv
  exact (show Looks _ _ (pure (Value.type "int")) (Value.type "int") from .now)
 ·rw [List.length_map] at hi hj
  obtain⟨a,p,e1,e2,t1,b1⟩:=at_ i hi
  obtain⟨c,p',e3,e4,t2,b2⟩:=at_ j hj
  rw [e1,e3]
  refine two_lt (t1.kept k) (t2.kept k) b1 b2 ?_
  rw [<-e2,<-e4]
  exact q'
 ·rw [List.length_map] at hp ha
  obtain⟨c,hc⟩:=sortedAll_at s.heap (as.map Value.ref) (outOf (as.map Value.ref) p)
  have hin:∀ i∈p.toList,i<as.length:=fun i hi=>by
   have h1:p.toList.Perm (List.range as.length):=by simpa using Array.perm_iff_toList_perm.mp hp
   simpa using h1.mem_iff.mp hi
  have eo:outOf (as.map Value.ref) p=List.toArray ((pick 0 as p).map Value.ref):=by
   unfold outOf pick
   rw [List.map_map]
   congr 1
   refine List.map_congr_left fun i hi=>?_
   have:=hin i hi
   simp [List.getD,this]
  have hps:(pick 0 as p).length<=sizeLine:=by
   have:=(pick_perm 0 as hp).length_eq
   rw [this]
   exact Nat.le_of_lt (small1000 (by omega))
  rw [eo] at hc
  have hp':p.Perm (List.toArray (List.range ps.length)):=by rw [<-hlen];exact hp
  refine⟨.ref (s.heap.objs.size+1),upd H (s.heap.objs.size+1) (.lst ((pick 0 as p).map V.ref)),I.laid (t':=s.toks) (fun b o e=>sortedAll_old e) (Nat.le_succ _) ?_,rfl,?_⟩
  ·exact (show ObjOk X.prog X.w _ _ _ (.lst _) from ⟨by rw [List.length_map];exact hps,(pick 0 as p).map Value.ref,c,refs_vals _,by rw [eo];exact hc⟩)
  ·have hasc:=pick_asc (n:=as.length) (by have:=hp.size_eq;simpa using this) ha (0,0) ps rankB fun i=>rfl
   have hmem:∀ x∈pick (0,0) ps p,0<=x.2/\x.2<1000:=fun x hx=>hb x ((pick_perm (0,0) ps hp').mem_iff.mp hx)
   refine q _ _ (pick (0,0) ps p) (I.hok.fresh (Nat.le_succ _)) (pick_paired 0 (0,0) hP hin) (pick_perm (0,0) ps hp') ?_
   refine List.Pairwise.imp_of_mem (fun {a b} ma mb hab=>?_) hasc
   have h1:=hmem a ma
   have h2:=hmem b mb
   unfold rankB at hab
   unfold leB
   omega
end Rm
namespace L2
open PySem PySem.W PySem.Spec PyProof.Rows Rm
section
variable {X:Cx}
theorem ints_getD:∀ {us:List Value} {ns:List Int},IntsAre us ns->∀ i,i<us.length->∃ t,us.getD i Value.none=.int (ns.getD i 0) t
 | _,_,.nil,i,h=>by simp at h
 | _,_,.cons n t r,0,_=>⟨t,rfl⟩
 | _,_,.cons n t r,i+1,h=>by
  obtain⟨t',e⟩:=ints_getD r i (by simpa using h)
  exact⟨t',by simpa using e⟩
theorem ints_pick{us:List Value}{ns:List Int}(hi:IntsAre us ns):∀ (p:List Nat),(∀ i∈p,i<us.length)->IntsAre (p.map fun i=>us.getD i Value.none) (p.map fun i=>ns.getD i 0)
 | [],_=>.nil
 | i::p,h=>by
  obtain⟨t,e⟩:=ints_getD hi i (h i List.mem_cons_self)
  rw [List.map_cons,List.map_cons,e]
  exact .cons _ t (ints_pick hi p fun j hj=>h j (List.mem_cons_of_mem _ hj))
theorem ints_len{us:List Value}{ns:List Int}(hi:IntsAre us ns):us.length=ns.length:=by
 induction hi with
 | nil=>rfl
 | cons _ _ _ ih=>simp [ih]
theorem ints_mem:∀ {us:List Value} {ns:List Int},IntsAre us ns->∀ v∈us,∃ n t,v=Value.int n t
 | _,_,.nil,v,h=>nomatch h
 | _,_,.cons n t r,v,h=>by
  rcases List.mem_cons.mp h with rfl | h
  ·exact⟨n,t,rfl⟩
  ·exact ints_mem r v h
def rSortQ(K:PySem.W.Frag):List V->Hp->VK->Prop:=fun xs H Q=>∃ (p:Addr) (ns:List Int),xs=[.ref p]/\(SqL K H p (ns.map V.int)\/SqT K H p (ns.map V.int))/\ns.length<64 ∧
 ∀ (l:Addr) (ms:List Int),H l=none->ms.Perm ns->ms.Pairwise (·<=·)->Q (.ref l) (upd H l (.lst (ms.map V.int)))
theorem call_sorted_intsQ:CallR X (.builtin "sorted") (rSortQ X.K):=by
 intro pins s σ H xs us Q I r h
 obtain⟨p,ns,rfl,hq,hl,q⟩:=h
 obtain⟨u,rfl,rx⟩:=vals1 r
 cases rx
 have fin:∀ its:List Value,IntsAre its ns->∀ pr:Array Nat,pr.Perm (List.toArray (List.range its.length))->Asc (fun i=>ns.getD i 0) pr its.length →
   EP X pins σ Q (.ref (s.heap.objs.size+1)) { s with heap:=sortedAll s.heap its (outOf its pr) }:=fun its hi pr hp ha=>by
  obtain⟨c,hc⟩:=sortedAll_at s.heap its (outOf its pr)
  have hil:=ints_len hi
  have hin:∀ i∈pr.toList,i<its.length:=fun i him=>by
   have h1:pr.toList.Perm (List.range its.length):=by simpa using Array.perm_iff_toList_perm.mp hp
   simpa using h1.mem_iff.mp him
  have hp':pr.Perm (List.toArray (List.range ns.length)):=by rw [<-hil];exact hp
  have hpk:=pick_perm 0 ns hp'
  have hlen:=hpk.length_eq
  refine⟨.ref (s.heap.objs.size+1),upd H (s.heap.objs.size+1) (.lst ((pick 0 ns pr).map V.int)),I.laid (t':=s.toks) (fun b o e=>sortedAll_old e) (Nat.le_succ _)
   (show ObjOk X.prog X.w _ _ _ (.lst _) from ⟨by rw [List.length_map,hlen];exact Nat.le_of_lt (small1000 (by omega)),(outOf its pr).toList,c,vals_ints ?_,by simpa using hc⟩),rfl,q _ _ (I.hok.fresh (Nat.le_succ _)) hpk ?_⟩
  ·have:=ints_pick hi pr.toList hin
   simpa [outOf,pick] using this
  ·exact pick_asc (n:=its.length) (by have:=hp.size_eq;simpa using this) ha 0 ns (fun x=>x) fun i=>rfl
 have kind:∀ (A:Around) (its:List Value),IntsAre its ns->2<=its.length->∀ (h':Heap) (Q:SortKind->Shared->Prop),Q oneType' { s with heap:=h' }->wpAny (model X.prog X.w) A (keyKind' its.toArray) Q (fun _ _=>False) { s with heap:=h' }:=fun A its hi h2 h' Q q'=>by
  refine kas_kind (T:=.type "int") h2 (fun v hv=>?_) (by decide) (by decide) q'
  obtain⟨n,t,rfl⟩:=ints_mem hi v hv
  exact (show Looks _ _ (pure (Value.type "int")) (Value.type "int") from .now)
 have lt:∀ (A:Around) (its:List Value),IntsAre its ns->∀ i j,i<its.length->j<its.length->∀ (h':Heap) (C:Bool->Shared->Prop),C (decide (ns.getD i 0<ns.getD j 0)) { s with heap:=h' } →
   wpAny (model X.prog X.w) A (keyLt' oneType' (its.getD i Value.none) (its.getD j Value.none)) C (fun _ _=>False) { s with heap:=h' }:=fun A its hi i j h1 h2 h' C q'=>by
  obtain⟨t,e⟩:=ints_getD hi i h1
  obtain⟨t',e'⟩:=ints_getD hi j h2
  rw [e,e']
  exact kat_lt_int q'
 rcases hq with hq | hq
 ·obtain⟨its,rv,pl,hz⟩:=I.list hq
  have hi:=ints_are rv
  have hil:=ints_len hi
  exact sorted_rank (r:=fun i=>ns.getD i 0) oneType' pl.isList (by omega) (fun h2 h' Q k q'=>kind _ its hi h2 h' Q q') (fun i j h1 h2 h' C k q'=>lt _ its hi i j h1 h2 h' C q') (fin its hi)
 ·obtain⟨its,rv,pl,hz⟩:=I.tuple hq
  have hi:=ints_are rv
  have hil:=ints_len hi
  exact sorted_rankT (r:=fun i=>ns.getD i 0) oneType' pl (by omega) (fun h2 h' Q k q'=>kind _ its hi h2 h' Q q') (fun i j h1 h2 h' C k q'=>lt _ its hi i j h1 h2 h' C q') (fin its hi)
end
end L2
namespace Rm
open PySem PySem.W PyProof.Rows L2
section
variable {prog:Program} {w:World} {A:Around} {E:Value->Shared->Prop} {S:Shared}
theorem small_outK:∀ (ks vs:List Value),ks.length=vs.length->vs.length<2->(ks.toArray.zip vs.toArray).map (·.2)=outOf vs (List.toArray (List.range vs.length))
 | [],[],_,_=>by simp [outOf]
 | [k],[v],_,_=>by simp [outOf]
 | _,_::_::_,_,h=>by simp at h;omega
 | [],[_],h,_=>by simp at h
 | _::_,[],h,_=>by simp at h
 | _::_::_,[_],h,_=>by simp at h
theorem key_end {a kS:Addr} {vs ks:List Value} {kz:List Int} {e e1:Nat} {P:PySem.Fin->Shared->Prop} (hki:IntsAre ks kz) (hl:ks.length=vs.length) (h64:vs.length<64) (ha:S.heap.get? a=some (seqObj "list" #[] e1))
  (hk:S.heap.get? kS=some (seqObj "list" ks.toArray e)) (hne:a≠kS)
  (h:∀ p:Array Nat,p.Perm (List.toArray (List.range vs.length))->Asc (fun i=>kz.getD i 0) p vs.length->P (.done (.ret .none)) { S with heap:=(S.heap.update kS (Obj.mapSeq fun _=>#[])).update a (Obj.mapSeq fun _=>outOf vs p) }) :
  wpAny (model prog w) A (ksk_end a false vs.toArray e1 (.ref kS) ks.toArray) P E S:=by
 have hz:vs.toArray.size=vs.length:=by simp
 have tail:∀ (st:SortSt) (p:Array Nat),(arrOf st).map (·.2)=outOf vs p->failedOf st=none->p.Perm (List.toArray (List.range vs.length))->Asc (fun i=>kz.getD i 0) p vs.length->wpAny (model prog w) A (ksk_tail a false e1 (.ref kS) st) P E S:=by
  intro st p e1' hf hp hs
  have hps:p.size=vs.length:=by have:=hp.size_eq;simpa using this
  have ha1:(S.heap.update kS (Obj.mapSeq fun _=>(#[]:Array Value))).get? a=some (seqObj "list" #[] e1):=(Heap.get?_update_ne _ _ _ _ hne).trans ha
  unfold ksk_tail
  refine wpAny_bind (listUpdate_at hk rfl (wpAny_bind (wpAny_letGo (wpAny_bind (seqEpoch_at ha1 rfl (wpAny_bind (listUpdate_at ha1 rfl ?_ (Nat.zero_le _) ?_)))))) ?_ (Nat.zero_le _))
  ·rw [hf,e1']
   simp only [bne_self_eq_false,Bool.false_eq_true,if_false]
   exact wpAny_pure (h p hp hs)
  ·show (if false=true then _ else (arrOf st).map (·.2)).size<=sizeLine+1
   rw [if_neg Bool.false_ne_true,e1',outOf,List.size_toArray,List.length_map,Array.length_toList,hps,sizeLine_eq];omega
  ·rw [List.size_toArray,hl,sizeLine_eq];omega
 unfold ksk_end
 dsimp only
 by_cases h2:vs.toArray.size<2
 ·simp only [h2,if_true,if_false,Bool.false_eq_true]
  refine wpAny_bind (wpAny_pure ?_)
  rw [StateT.run_pure]
  refine wpAny_bind (wpAny_pure ?_)
  refine tail _ (List.toArray (List.range vs.length)) (small_outK ks vs hl (by omega)) rfl (Array.Perm.refl _) fun i j hij hj=>?_
  have e9:i=j:=by omega
  rw [e9];exact Int.le_refl _
 ·simp only [h2,if_true,if_false,Bool.false_eq_true]
  have h2':2<=vs.length:=by omega
  refine wpAny_bind (kas_kind (T:=.type "int") (by omega) (fun v hv=>?_) (by decide) (by decide) ?_)
  ·obtain⟨n,t,rfl⟩:=ints_mem hki v hv
   exact (show Looks _ _ (pure (Value.type "int")) (Value.type "int") from .now)
  have T:Told (fun i=>kz.getD i 0) vs.length (kas_ask prog w A oneType' ks) S:=fun i j hi hj C hC=>by
   obtain⟨t,et⟩:=ints_getD hki i (by omega)
   obtain⟨u,eu⟩:=ints_getD hki j (by omega)
   show wpAny _ _ (keyLt' oneType' (ks.getD i Value.none) (ks.getD j Value.none)) _ _ _
   rw [et,eu]
   exact kat_lt_int hC
  refine wpAny_bind (wpAny_mono (kat_run (ks:=ks) (vs:=vs) (Q:=fun st' s'=>s'=S/\∃ p:Array Nat,p.size=vs.length/\arrOf st'=p.map (kas_item (ks.toArray.zip vs.toArray))/\failedOf st'=none/\p.Perm (List.toArray (List.range vs.length))/\Asc (fun i=>kz.getD i 0) p vs.length)
   (G:=fun p s'=>s'=S/\p.Perm (List.toArray (List.range vs.length))/\Asc (fun i=>kz.getD i 0) p vs.length)
   hl h2' h64 (fun p' st' s' a1 a2 a3 a4=>⟨a4.1,p',a1,a2,a3,a4.2⟩) (sort_spec T (by omega) fun p hp ha=>⟨rfl,hp,ha⟩)) ?_ fun _ _ e=>e)
  rintro⟨⟨⟩,st'⟩ s' ⟨rfl,p,hps,har,hf,hp,hs⟩
  refine tail st' p ?_ hf hp hs
  have hout:=kat_snds (ks:=ks) (vs:=vs) hl har
  rw [hout];rfl
end
section
variable {X:Cx} {pins:List (Addr×Obj)} {σ:L2.St} {H:Hp} {s:Shared}
theorem run_in2{k:Nat}{f:Addr}{fd:FuncData}{ps:List Str}{sp:Sp}{Q:VK}{us:List Value}{vs:List V}{E:Value->Shared->Prop}(F:FnOk X.prog X.w X.K X.mg X.base CX0 k f fd ps sp)(hr:Room (k+2) X.A)(hb:Binds X.K fd ps [])
  (I:Inv X pins σ H s) (r:Vals vs us) (h:sp vs H Q E0):wpAny (model X.prog X.w) X.A.in1.in1 (call (.ref f) us) (EP X pins σ Q) E s:=by
 have hl:(us++[]).length=ps.length:=by rw [List.append_nil,<-r.length];exact F.len _ _ _ _ h
 have hbb:=hb s us I.kIn hl
 rw [List.append_nil] at hbb
 refine wpAny_call (codeAny_mono (F.run X.A.in1.in1 X.stack s H ⟨us,[]⟩ us vs Q E0 (Room.in1 (Room.in1 hr)) I.env0.in1.in1 hbb r h) fun r s' hq=>?_)
 cases r with
 | error e=>exact False.elim hq
 | ok fl=>
  cases fl with
  | ret u=>exact I.after hq
  | next=>exact False.elim hq
  | brk=>exact False.elim hq
  | cont=>exact False.elim hq
theorem key_rest{k:Nat}{f:Addr}{fd:FuncData}{ps:List Str}{sp:Sp}{xs:List V}{vs:List Value}{kz:List Int}{a kS:Addr}{e1:Nat}{P:PySem.Fin->Shared->Prop}{E:Value->Shared->Prop}
  (F:FnOk X.prog X.w X.K X.mg X.base CX0 k f fd ps sp) (hr:Room (k+2) X.A) (hb:Binds X.K fd ps []) (I:Inv X pins σ H s) (hv:Vals xs vs) (hkl:kz.length=xs.length) (h64:vs.length<64)
  (hsp:∀ (i:Nat) x k (Q':VK),xs[i]? = some x->kz[i]? = some k->Q' (.int k) H->sp [x] H Q' E0)
  (fa:FpOk X pins H a) (fk:FpOk X pins H kS) (hne:a≠kS) (ha:s.heap.get? a=some (seqObj "list" #[] e1)) (hk:s.heap.get? kS=some (seqObj "list" #[] 0))
  (h:∀ (p:Array Nat) (s':Shared) (ks:List Value) (e:Nat),Inv X pins σ H s'->s'.heap.get? a=some (seqObj "list" #[] e1)->s'.heap.get? kS=some (seqObj "list" ks.toArray e)->p.Perm (List.toArray (List.range vs.length))->Asc (fun i=>kz.getD i 0) p vs.length →
   P (.done (.ret .none)) { s' with heap:=(s'.heap.update kS (Obj.mapSeq fun _=>#[])).update a (Obj.mapSeq fun _=>outOf vs p) }) :
  wpAny (model X.prog X.w) X.A.in1.in1 (ksk_rest a (.ref f) false vs.toArray e1 (.ref kS)) P E s:=by
 unfold ksk_rest
 refine wpAny_bind (wpAny_rule ?_)
 rw [<-Array.forIn_toList]
 simp only [List.toList_toArray]
 have hvl:vs.length=xs.length:=hv.length.symm
 refine wpAny_bind (wpAny_forIn_list _ (fun rest _ s'=>∃ (done:List Value) (ks:List Value) (e:Nat),vs=done++rest/\IntsAre ks (kz.take done.length)/\ks.length=done.length/\Inv X pins σ H s'/\s'.heap.get? a=some (seqObj "list" #[] e1)/\s'.heap.get? kS=some (seqObj "list" ks.toArray e)) _ ?_ ?_ vs _
  ⟨[],[],0,rfl,by simpa using IntsAre.nil,rfl,I,ha,hk⟩)
 ·rintro v rest _ s' ⟨done,ks,e,hvs,hki,hkl2,I',ha',hk'⟩
  have hdl:done.length<vs.length:=by rw [hvs];simp
  have hvi:vs[done.length]? = some v:=by rw [hvs];simp
  obtain⟨x,hx,rx⟩:∃ x,xs[done.length]? = some x/\RelV x v:=by
   have hxi:xs[done.length]? = some xs[done.length]:=List.getElem?_eq_getElem (by omega)
   obtain⟨u,hu,ru⟩:=hv.get hxi
   rw [hvi] at hu
   cases hu
   exact⟨_,hxi,ru⟩
  have hki':kz[done.length]? = some kz[done.length]:=List.getElem?_eq_getElem (by omega)
  have fp:∀ b∈[a,kS],FpOk X pins H b:=fun b hb=>by
   rcases List.mem_cons.mp hb with z | z
   ·rw [z];exact fa
   ·have z':b=kS:=by simpa using z
    rw [z'];exact fk
  have Ip:=I'.pinned fp fun b hb=>by
   rcases List.mem_cons.mp hb with z | z
   ·rw [z];exact⟨_,ha',fun v z=>by cases z⟩
   ·have z':b=kS:=by simpa using z
    rw [z'];exact⟨_,hk',fun v z=>by cases z⟩
  refine wpAny_bind (wpAny_attempt (wpAny_mono (run_in2 (E:=fun _ _=>False) (Q:=fun v' H'=>v'=.int kz[done.length]/\H'=H) F hr hb Ip (.cons rx .nil) (hsp _ x _ _ hx hki' ⟨rfl,rfl⟩)) (fun u s2 hq=>?_) fun _ _ z=>z.elim))
  obtain⟨v',H2,I2,r2,rfl,rfl⟩:=hq
  obtain⟨t,rfl⟩:=r2
  have pa:=(I2.pin (a,_) (List.mem_append_right _ (List.mem_append_right _ (mem_pinsAt (by simp) ha')))).1
  have pk:=(I2.pin (kS,_) (List.mem_append_right _ (List.mem_append_right _ (mem_pinsAt (by simp) hk')))).1
  have sb:=Heap.SameBut.update s2.heap kS (Obj.mapSeq (·.push (Value.int kz[done.length] t)))
  obtain⟨c2,hc2⟩:∃ c2,(s2.heap.update kS (Obj.mapSeq (·.push (Value.int kz[done.length] t)))).get? kS=some (seqObj "list" (ks++[Value.int kz[done.length] t]).toArray c2):=⟨_,by
   have:=get?_update_seq pk (·.push (Value.int kz[done.length] t))
   simpa using this⟩
  refine wpAny_bind (listUpdate_at pk rfl ?_ (by rw [List.size_toArray,sizeLine_eq];omega) (by rw [Array.size_push,List.size_toArray,sizeLine_eq];omega))
  obtain⟨k0,k1,k2,k3,k4,k5⟩:=fk
  refine wpAny_pure ⟨done++[v],ks++[Value.int kz[done.length] t],c2,by rw [hvs];simp,?_,by simp [hkl2],I2.unpinned.turned (t':=s2.toks) (fun b o hb e=>(sb.2 b hb).trans e) k0 k1 k3 k4 k5,(sb.2 a hne).trans pa,hc2⟩
  rw [List.length_append,List.length_singleton,List.take_add_one,hki']
  exact ksk_snoc hki
 ·rintro _ s' ⟨done,ks,e,hvs,hki,hkl2,I',ha',hk'⟩
  rw [List.append_nil] at hvs
  subst hvs
  rw [List.take_of_length_le (by omega)] at hki
  refine wpAny_bind (listItems_at hk' rfl ?_)
  exact key_end hki (by omega) h64 ha' hk' hne fun p hp hs=>h p s' ks e I' ha' hk' hp hs
end
end Rm
namespace L2
open PySem PySem.W PySem.Spec PyProof.Rows Rm
def tSortK(K:PySem.W.Frag)(sp:Sp)(te:TE):TE:=fun σ H Q=>te σ H fun x H1=>∃ (l:Addr) (xs:List V) (kz:List Int),x=.ref l/\SqL K H1 l xs/\xs.length<64/\kz.length=xs.length ∧
 (∀ (i:Nat) x k (Q':VK),xs[i]? = some x->kz[i]? = some k->Q' (.int k) H1->sp [x] H1 Q' E0) ∧
 ∀ (l':Addr) (zs:List (Int×V)),H1 l'=none->zs.Perm (kz.zip xs)->zs.Pairwise (fun a b=>a.1<=b.1)->Q (.ref l') (upd H1 l' (.lst (zs.map (·.2))))
theorem w_sortK{K:PySem.W.Frag}{sp:Sp}{te:TE}{σ:St}{H:Hp}{Q:VK}:tSortK K sp te σ H Q=te σ H fun x H1=>∃ (l:Addr) (xs:List V) (kz:List Int),x=.ref l/\SqL K H1 l xs/\xs.length<64/\kz.length=xs.length ∧
 (∀ (i:Nat) x k (Q':VK),xs[i]? = some x->kz[i]? = some k->Q' (.int k) H1->sp [x] H1 Q' E0) ∧
 ∀ (l':Addr) (zs:List (Int×V)),H1 l'=none->zs.Perm (kz.zip xs)->zs.Pairwise (fun a b=>a.1<=b.1)->Q (.ref l') (upd H1 l' (.lst (zs.map (·.2)))):=rfl
theorem vals_pick:∀ {xs:List V} {us:List Value},Vals xs us->∀ (p:List Nat),(∀ i∈p,i<xs.length)->Vals (p.map fun i=>xs.getD i .non) (p.map fun i=>us.getD i Value.none)
 | xs,us,h,[],_=>.nil
 | xs,us,h,i::p,hp=>by
  have hi:=hp i List.mem_cons_self
  have hx:xs[i]? = some xs[i]:=List.getElem?_eq_getElem hi
  obtain⟨u,hu,ru⟩:=h.get hx
  refine .cons ?_ (vals_pick h p fun j hj=>hp j (List.mem_cons_of_mem _ hj))
  simp only [List.getD,hx,hu,Option.getD_some]
  exact ru
theorem Inv.adopt{X:Cx}{pins:List (Addr×Obj)}{σ:St}{H:Hp}{s:Shared}{a:Addr}{o:HO}(I:Inv X pins σ H s)(fa:FpOk X pins H a)(new:ObjOk X.prog X.w (upd H a o) s.heap a o):Inv X pins σ (upd H a o) s:=by
 obtain⟨f0,f1,f2,f3,f4,f5⟩:=fa
 have ne:∀ b u,H b=some u->b≠a:=fun b u e z=>by rw [z,f0] at e;cases e
 refine I.step (g':=s.gens) (d':=s.drawn) (t':=s.toks) (h':=s.heap) (ch:=[a]) (fun b hb=>?_) (fun b u _ _ _ e _=>e) (fun b u _ _ _ e _=>⟨u.slots,e⟩) (fun b u hc e n=>by rw [upd_ne (fun z=>hc (by simp [z]))];exact n) (fun b u _ e=>⟨u,e⟩)
  (fun b xs e=>by rw [upd_ne (ne _ _ e)];exact e) (fun b u xs e=>by rw [upd_ne (ne _ _ e)];exact e) (fun b ps e=>⟨#[],by rw [upd_ne (ne _ _ e),e];simp⟩) (fun m hm=>hm) (fun b u e=>?_) I.bare
 ·have e:b=a:=by simpa using hb
  subst e
  exact⟨f3,f1,f4,f5⟩
 ·by_cases hb:b=a
  ·subst hb
   rw [upd_same] at e
   cases e
   exact new
  ·rw [upd_ne hb] at e
   exact (I.hok b u e).stay (fun c v _ q=>q) (fun c q=>by rw [upd_ne (ne _ _ q)];exact q) fun c xs q=>by rw [upd_ne (ne _ _ q)];exact q
section
variable {X:Cx} {k:Nat} {x f:Str} {st:Stmt} {ps:List Str} {sp:Sp} {e:Expr} {te:TE} {p p2 kp pos:Pos}
theorem pe_sortK (D:Def X.prog X.w X.K X.mg X.base k f st ps sp) (hr:Room (k+2) X.A) (hg:Gl X "sorted") (hm:X.mg "sorted"=none) (hgf:Gl X f) (he:PE X e te) (hdf:(f==("__debug__":Str))=false:=by decide)
  (hs:starEach [e] X.env=[(false,eval e X.env)]:=by rfl):PE X (.Call (.Name "sorted" p) [e] [⟨some "key",.Name f p2,kp⟩] pos) (tSortK X.K sp te):=by
 obtain⟨fa,fd,F,m,b,G⟩:=D.ex
 intro pins s σ H Q I h
 refine wpAny_Call_Name_kw (ld_blt I hg hm PyProof.Rows.boot_sorted ?_)
 let B:V->Hp->Prop:=fun x H1=>∃ (l:Addr) (xs:List V) (kz:List Int),x=.ref l/\SqL X.K H1 l xs/\xs.length<64/\kz.length=xs.length ∧
  (∀ (i:Nat) x k (Q':VK),xs[i]? = some x->kz[i]? = some k->Q' (.int k) H1->sp [x] H1 Q' E0) ∧
  ∀ (l':Addr) (zs:List (Int×V)),H1 l'=none->zs.Perm (kz.zip xs)->zs.Pairwise (fun a b=>a.1<=b.1)->Q (.ref l') (upd H1 l' (.lst (zs.map (·.2))))
 refine callWith_kw (thn (pa_cons he pa_nil hs pos pins s σ H (fun vs H1=>match vs with | [x]=>B x H1 | _=>False) I h) fun us s1 ⟨vs,H1,I1,r1,q1⟩=>?_) (by rw [hs];rfl) (by rw [hs];rfl)
 refine kws_cons (ld_glob I1 hgf m (kws_nil ?_) hdf)
 match vs,r1,q1 with
 | [x],r1,q1=>
  obtain⟨l,xs,kz,rfl,hq,h64,hkl,hsp,q⟩:=q1
  obtain⟨u,rfl,rx⟩:=vals1 r1
  cases rx
  obtain⟨its,rv,pl,hz⟩:=I1.list hq
  have hil:its.length=xs.length:=rv.length.symm
  show wpAny _ X.A (call (.builtin "sorted") [.ref l] [(Str.ofString "key",.ref fa)]) _ _ s1
  refine call_function_entry_kw kind_sorted plain_sorted entry_sorted (ksk_s1 _ _) ?_
  unfold Builtin.«sorted»
  refine wpAny_bind (m:=checkCount "sorted" 1 1 _) (wpAny_pure (wpAny_bind (collect_list pl.isList (wpAny_bind (wpAny_newList ?_ (by rw [sizeLine_eq];omega))) (by rw [sizeLine_eq];omega))))
  have hsz:((s1.heap.push (seqObj "list" #[] 0)).update s1.heap.objs.size (Obj.mapSeq (·++its.toArray))).objs.size=s1.heap.objs.size+1:=by rw [Heap.size_update,size_push']
  generalize hh2:(s1.heap.push (seqObj "list" #[] 0)).update s1.heap.objs.size (Obj.mapSeq (·++its.toArray))=h2 at hsz
  have keep:∀ b o,s1.heap.get? b=some o->h2.get? b=some o:=fun b o e=>by
   rw [<-hh2]
   exact (Heap.get?_update_ne _ _ _ _ (Nat.ne_of_lt (Heap.lt_size e))).trans (Heap.get?_push_of_some _ e)
  have hle:s1.heap.objs.size<=h2.objs.size:=by rw [hsz];exact Nat.le_succ _
  have ho:(h2.push (seqObj "list" its.toArray 0)).get? h2.objs.size=some (seqObj "list" its.toArray 0):=Heap.get?_push_size _ rfl
  refine wpAny_bind (wpAny_holding (wpAny_call_entry_kw slot_list_sort ⟨_,ho,rfl⟩ entry_list_sort ?body (ksk_l1 _ _)))
  case body=>
   show wpAny _ X.A.in1.in1 (Builtin.«list.sort» ⟨[.ref h2.objs.size],[(Str.ofString "key",.ref fa)]⟩) _ _ { s1 with heap:=h2.push (seqObj "list" its.toArray 0) }
   rw [ksk_t1]
   unfold ksk_tree
   obtain⟨c1,hc1⟩:∃ c1,((h2.push (seqObj "list" its.toArray 0)).update h2.objs.size (Obj.mapSeq fun _=>#[])).get? h2.objs.size=some (seqObj "list" #[] c1):=⟨_,get?_update_seq ho fun _=>#[]⟩
   refine wpAny_bind (listItems_at ho rfl (wpAny_bind (listUpdate_at ho rfl ?_ (by rw [List.size_toArray,sizeLine_eq];omega) (Nat.zero_le _))))
   refine wpAny_bind (seqEpoch_at hc1 rfl (wpAny_bind (wpAny_newTuple (wpAny_bind (wpAny_newList (wpAny_holding ?_) (Nat.zero_le _))) (by show its.length<=_;rw [sizeLine_eq];omega))))
   have hs3:((h2.push (seqObj "list" its.toArray 0)).update h2.objs.size (Obj.mapSeq fun _=>#[])).objs.size=h2.objs.size+1:=by rw [Heap.size_update,size_push']
   generalize hh3:(h2.push (seqObj "list" its.toArray 0)).update h2.objs.size (Obj.mapSeq fun _=>#[])=h3 at hc1 hs3
   have keep3:∀ b o,s1.heap.get? b=some o->h3.get? b=some o:=fun b o e=>by
    rw [<-hh3]
    exact (Heap.get?_update_ne _ _ _ _ (Nat.ne_of_lt (Nat.lt_of_lt_of_le (Heap.lt_size e) hle))).trans (Heap.get?_push_of_some _ (keep b o e))
   have hkS:(h3.push (seqObj "tuple" its.toArray 0)).objs.size=h3.objs.size+1:=size_push' ..
   have hleK:s1.heap.objs.size<=(h3.push (seqObj "tuple" its.toArray 0)).objs.size:=by rw [hkS,hs3];omega
   have hneK:h2.objs.size≠(h3.push (seqObj "tuple" its.toArray 0)).objs.size:=by rw [hkS,hs3];omega
   have I2:Inv X pins σ H1 { s1 with heap:=(h3.push (seqObj "tuple" its.toArray 0)).push (seqObj "list" #[] 0) }:=I1.kept (t':=s1.toks) fun b o e=>Heap.get?_push_of_some _ (Heap.get?_push_of_some _ (keep3 b o e))
   have fA:FpOk X pins H1 h2.objs.size:=I1.fpOk hle (I1.hok.fresh hle)
   have fK:FpOk X pins H1 (h3.push (seqObj "tuple" its.toArray 0)).objs.size:=I1.fpOk hleK (I1.hok.fresh hleK)
   refine key_rest (s:={ s1 with heap:=(h3.push (seqObj "tuple" its.toArray 0)).push (seqObj "list" #[] 0) }) (kz:=kz) G hr b I2 rv hkl (by omega) hsp fA fK hneK (Heap.get?_push_of_some _ (Heap.get?_push_of_some _ hc1)) (Heap.get?_push_size _ rfl) fun p s' ks e I3 ha hk hp hasc=>⟨_,rfl,wpAny_pure ⟨_,rfl,?_⟩⟩
   generalize (h3.push (seqObj "tuple" its.toArray 0)).objs.size=kS at fK hneK hk ⊢
   generalize h2.objs.size=D' at fA hneK ha ⊢
   have hin:∀ i∈p.toList,i<its.length:=fun i him=>by
    have h1:p.toList.Perm (List.range its.length):=by simpa using Array.perm_iff_toList_perm.mp hp
    simpa using h1.mem_iff.mp him
   have sbK:=Heap.SameBut.update s'.heap kS (Obj.mapSeq fun _=>(#[]:Array Value))
   have sbA:=Heap.SameBut.update (s'.heap.update kS (Obj.mapSeq fun _=>(#[]:Array Value))) D' (Obj.mapSeq fun _=>outOf its p)
   obtain⟨k0,k1,k2,k3,k4,k5⟩:=fK
   obtain⟨a0,a1,a2,a3,a4,a5⟩:=id fA
   have I4:=I3.turned (t':=s'.toks) (h':=s'.heap.update kS (Obj.mapSeq fun _=>#[])) (fun b o hb e=>(sbK.2 b hb).trans e) k0 k1 k3 k4 k5
   have I5:=I4.turned (t':=s'.toks) (h':=(s'.heap.update kS (Obj.mapSeq fun _=>#[])).update D' (Obj.mapSeq fun _=>outOf its p)) (fun b o hb e=>(sbA.2 b hb).trans e) a0 a1 a3 a4 a5
   have ha1:(s'.heap.update kS (Obj.mapSeq fun _=>(#[]:Array Value))).get? D'=some (seqObj "list" #[] c1):=(sbK.2 D' hneK).trans ha
   obtain⟨c5,hc5⟩:∃ c5,((s'.heap.update kS (Obj.mapSeq fun _=>(#[]:Array Value))).update D' (Obj.mapSeq fun _=>outOf its p)).get? D'=some (seqObj "list" (outOf its p) c5):=⟨_,get?_update_seq ha1 fun _=>outOf its p⟩
   have hpl:p.toList.length=its.length:=by
    have h1:p.toList.Perm (List.range its.length):=by simpa using Array.perm_iff_toList_perm.mp hp
    have:=h1.length_eq
    simpa using this
   refine⟨.ref D',upd H1 D' (.lst ((p.toList.map fun i=>(kz.getD i 0,xs.getD i V.non)).map (·.2))),I5.adopt fA ?_,rfl,q D' _ a0 ?_ ?_⟩
   ·rw [List.map_map]
    exact⟨by rw [List.length_map,hpl,sizeLine_eq];omega,p.toList.map fun i=>its.getD i Value.none,c5,vals_pick rv p.toList fun i hi=>by rw [<-hil];exact hin i hi,hc5⟩
   ·have e0:p.toList.map (fun i=>(kz.getD i 0,xs.getD i V.non))=pick (0,V.non) (kz.zip xs) p:=by
     unfold pick
     refine List.map_congr_left fun i hi=>?_
     have h1:i<xs.length:=by rw [<-hil];exact hin i hi
     have h2:i<kz.length:=by omega
     have hz:(kz.zip xs)[i]? = some (kz[i],xs[i]):=by rw [List.getElem?_eq_getElem (by rw [List.length_zip];omega),List.getElem_zip]
     simp only [List.getD,hz,List.getElem?_eq_getElem h1,List.getElem?_eq_getElem h2,Option.getD_some]
    rw [e0]
    refine pick_perm (0,V.non) (kz.zip xs) ?_
    rw [List.length_zip,hkl,Nat.min_self,<-hil]
    exact hp
   ·rw [List.pairwise_map]
    have hps:p.size=its.length:=by rw [<-hpl];simp
    rw [List.pairwise_iff_getElem]
    intro i j hi hj hij
    have:=hasc i j (Nat.le_of_lt hij) (by rw [<-hpl];exact hj)
    unfold Kk at this
    have hi':i<p.size:=by simpa using hi
    have hj':j<p.size:=by simpa using hj
    simp only [Array.getD_eq_getD_getElem?,Array.getElem?_eq_getElem hi',Array.getElem?_eq_getElem hj',Option.getD_some] at this
    simpa using this
end
end L2
namespace L2
open PySem PySem.Spec PyProof.Rows
section
variable {prog:Program} {w:World} {A:Around} {E:Value->Shared->Prop} {s:Shared}
theorem iter_raw{d:Addr}{o:Obj}{es:Array DictEntry}{ep:Nat}{Q:Value->Shared->Prop}(hd:(d==sysModules)=false)(ho:s.heap.get? d=some o)(hx:o.ExactDict)(hdat:o.data=.dict es ep)
  (hQ:Q (.ref s.heap.objs.size) { s with heap:=s.heap.push { cls:=.type "dict_keyiterator",data:=.fields #[.ref d,.int 0 0,.int es.size 0,.int ep 0] } }):wpAny (model prog w) A (pyIter (.ref d)) Q E s:=by
 have hT:s.TypeIs (.ref d) "dict":=⟨o,ho,hx.1⟩
 refine wpAny_pyIter_slot hT F.slot_dict_iter (wpAny_call_entry F.slot_dict_iter hT F.entry_dict_iter ?_ (F.args_dict_iter_1 _))
 unfold Builtin.«dict.__iter__» Builtin.Dict.dictSlotNone
 refine wpAny_bind (wpAny_bind (wpAny_notOrdered_dict hT (wpAny_pure (a:=Value.ref d) ?_)))
 unfold Builtin.Dict.showsAll
 refine wpAny_bind (m:=Builtin.Dict.addrOf (Value.ref d)) (wpAny_pure (a:=d) ?_)
 rw [if_neg (show ¬ (d==sysModules)=true by rw [hd];exact Bool.false_ne_true)]
 refine wpAny_bind (wpAny_pure (wpAny_bind (wpAny_dictEntries ho hdat (wpAny_bind (wpAny_dictEpoch ho hdat (wpAny_bind (wpAny_newObj_type (wpAny_pure ⟨_,rfl,"dict_keyiterator",_,⟨_,Heap.get?_push_size _ rfl,rfl⟩,F.slot_dict_keyiterator_next.lookup,?_⟩))))))))
 simpa [rawInt] using hQ
theorem next_raw{it d:Addr}{i ep:Nat}{o:Obj}{es:Array DictEntry}{Q:Option Value->Shared->Prop}(hit:s.heap.IsKeyIter it d i es.size ep)(ho:s.heap.get? d=some o)(hdat:o.data=.dict es ep)(hi:i<es.size)
  (hQ:∀ h',h'.IsKeyIter it d (i+1) es.size ep->Heap.SameBut it s.heap h'->Q (some es[i].key) { s with heap:=h' }):wpAny (model prog w) A (pyNext (.ref it)) Q E s:=by
 obtain⟨oi,hoi,hc,hd⟩:=id hit
 unfold pyNext
 refine wpAny_bind (wpAny_attempt (wpAny_callSpecial?_slot (name:=Str.ofString "__next__") hit.typeIs F.slot_dict_keyiterator_next (wpAny_call_entry F.slot_dict_keyiterator_next hit.typeIs F.entry_dict_keyiterator_next (wpAny_bind (wpAny_pure (wpAny_bind (wpAny_bind ?_)))) (F.args_dict_keyiterator_next_1 _))))
 first | refine wpAny_bind (wpAny_typeNameOfWhole_keyiter hit.typeIs (wpAny_pure (wpAny_bind (wpAny_fieldsOf hoi hd ?_)))) | refine wpAny_bind (wpAny_typeNameOf_keyiter hit.typeIs (wpAny_pure (wpAny_bind (wpAny_fieldsOf hoi hd ?_))))
 rw [if_neg (show ¬ (Builtin.Dict_items.ownsTuple "dict_keyiterator")=true by decide)]
 show wpAny _ _ (if (Value.ref d==Value.none)=true then _ else _) _ _ s
 rw [if_neg (show ¬ (Value.ref d==Value.none)=true from Bool.false_ne_true)]
 refine wpAny_bind (wpAny_pure (wpAny_bind (wpAny_dictEntries ho hdat ?_)))
 rw [if_neg (by simp)]
 refine wpAny_bind (wpAny_pure (wpAny_bind (wpAny_dictEpoch ho hdat ?_)))
 rw [if_neg (by simp)]
 refine wpAny_pure ?_
 simp only [show ¬ ((i:Int)<0) from by omega,if_false,Int.toNat_natCast,Array.getElem?_eq_getElem hi]
 refine wpAny_bind ?_
 first | refine wpAny_bind (wpAny_typeNameOfWhole_keyiter hit.typeIs (wpAny_pure (wpAny_bind (wpAny_isOneOf_keyiter hit.typeIs ?_)))) | refine wpAny_bind (wpAny_typeNameOf_keyiter hit.typeIs (wpAny_pure (wpAny_bind (wpAny_isOneOf_keyiter hit.typeIs ?_))))
 show wpAny _ _ (setField (.ref it) 1 (rawInt ((i:Int)+1))>>=_) _ _ s
 have hit':(s.heap.update it (Obj.mapFields (·.setIfInBounds 1 (rawInt ((i:Int)+1))))).IsKeyIter it d (i+1) es.size ep:=⟨_,Heap.get?_update_self _ hoi (Obj.isFreed_of_fields (Obj.data_mapFields hd _)),(Obj.cls_mapFields ..).trans hc,by rw [Obj.data_mapFields hd];simp [rawInt]⟩
 refine wpAny_bind (wpAny_setField hoi hd (by simp) (wpAny_bind (wpAny_holding (wpAny_bind (wpAny_isOneOf_keyiter (s:={ s with heap:=s.heap.update it (Obj.mapFields (·.setIfInBounds 1 (rawInt ((i:Int)+1)))) }) hit'.typeIs ?_)))))
 exact wpAny_pure (a:=es[i].key) (wpAny_pure ⟨_,rfl,wpAny_pure (hQ _ hit' (Heap.SameBut.update ..))⟩)
theorem end_raw{it d:Addr}{ep:Nat}{o:Obj}{es:Array DictEntry}{Q:Option Value->Shared->Prop}(hh:A.handled=none)(hit:s.heap.IsKeyIter it d es.size es.size ep)(ho:s.heap.get? d=some o)(hdat:o.data=.dict es ep)
  (hQ:∀ h',Heap.ExtBut it s.heap h'->Q none { s with heap:=h' }):wpAny (model prog w) A (pyNext (.ref it)) Q E s:=by
 obtain⟨oi,hoi,hc,hd⟩:=id hit
 unfold pyNext
 refine wpAny_bind (wpAny_attempt (wpAny_callSpecial?_slot (name:=Str.ofString "__next__") hit.typeIs F.slot_dict_keyiterator_next (wpAny_call_entry F.slot_dict_keyiterator_next hit.typeIs F.entry_dict_keyiterator_next (wpAny_bind (wpAny_pure (wpAny_bind (wpAny_bind ?_)))) (F.args_dict_keyiterator_next_1 _))))
 first | refine wpAny_bind (wpAny_typeNameOfWhole_keyiter hit.typeIs (wpAny_pure (wpAny_bind (wpAny_fieldsOf hoi hd ?_)))) | refine wpAny_bind (wpAny_typeNameOf_keyiter hit.typeIs (wpAny_pure (wpAny_bind (wpAny_fieldsOf hoi hd ?_))))
 rw [if_neg (show ¬ (Builtin.Dict_items.ownsTuple "dict_keyiterator")=true by decide)]
 show wpAny _ _ (if (Value.ref d==Value.none)=true then _ else _) _ _ s
 rw [if_neg (show ¬ (Value.ref d==Value.none)=true from Bool.false_ne_true)]
 refine wpAny_bind (wpAny_pure (wpAny_bind (wpAny_dictEntries ho hdat ?_)))
 rw [if_neg (by simp)]
 refine wpAny_bind (wpAny_pure (wpAny_bind (wpAny_dictEpoch ho hdat ?_)))
 rw [if_neg (by simp)]
 refine wpAny_pure ?_
 simp only [show ¬ ((es.size:Int)<0) from by omega,if_false,Int.toNat_natCast,Array.getElem?_eq_none (Nat.le_refl es.size)]
 refine wpAny_bind ?_
 first | refine wpAny_bind (wpAny_typeNameOfWhole_keyiter hit.typeIs (wpAny_pure ?_)) | refine wpAny_bind (wpAny_typeNameOf_keyiter hit.typeIs (wpAny_pure ?_))
 refine wpAny_bind (m:=setField (.ref it) 0 .none) (wpAny_setField hoi hd (by simp) (wpAny_bind (m:=newExc (.type "StopIteration") []) ?_))
 simp only [newExc,newTuple]
 refine wpAny_bind (wpAny_newObj_type (wpAny_bind (m:=firstArgMember _ _) (wpAny_of_eq (a:=Value.none) (by first | rfl | (simp only [firstArgMember];rfl)) (wpAny_newObj_type ?_ (by size_fits)))) (by size_fits))
 simp only [raiseNew]
 refine wpAny_bind (wpAny_handled ?_)
 rw [show A.in1.handled=none from hh]
 refine wpAny_bind (wpAny_pure (wpAny_throw ?_))
 refine wpAny_bind (wpAny_isInstance (T:="StopIteration") (b:=true) ⟨_,Heap.get?_push_size _ rfl,rfl⟩ isSubtype_stop ?_)
 exact wpAny_pure (hQ _ (((Heap.SameBut.update ..).extBut.push _).push _))
end
def ItD(a:Addr)(o:Obj)(kvs:List (List Key×V)):It:=
 ⟨fun i H=>i<kvs.length/\H a=some (.frz o (.dT kvs)),fun i H x H'=>H'=H/\∃ k v b,kvs[i]? = some (k,v)/\x=.ref b/\H b=some (.tup (k.map kV)),fun i H=>i=kvs.length/\H a=some (.frz o (.dT kvs))⟩
theorem turn_dict {P : Program} {w : World} {K : PySem.W.Frag} {tg : Expr} (a it : Addr) (o : Obj) (es : Array DictEntry) (ep : Nat) (kvs : List (List Key × V)) (hdat : o.data = .dict es ep) (hes : es.size = kvs.length) :
    Turn P w K tg (ItD a o kvs) [it] it (fun i h => h.IsKeyIter it a i es.size ep) where
  mem := by simp
  obj := fun i h st b hb => by
    have e : b = it := by simpa using hb
    subst e
    obtain ⟨oi, e, c, d⟩ := st
    exact ⟨oi, e, fun v z => by rw [d] at z; cases z⟩
  keep := fun i h h' st k => by
    obtain ⟨oi, e, r⟩ := st
    exact ⟨oi, k it (by simp) _ e, r⟩
  item := by
    intro X hP hw hK hc i pins s σ H E I hf st hg
    subst hP hw hK
    obtain ⟨hi, hH⟩ := hg
    obtain ⟨ho, z, y, xs, r, o', es', ep', e1, ex, ed, el, nd⟩ := (show ObjOk X.prog X.w H s.heap a (.frz o (.dT kvs)) from I.hok a _ hH)
    rw [ho] at e1
    cases e1
    rw [hdat] at ed
    cases ed
    obtain ⟨f0, f1, f2, f3, f4, f5⟩ := hf it (by simp)
    have hi' : i < es.size := by omega
    refine next_raw st ho hdat hi' fun h' st' sb => ?_
    have hki : kvs[i]? = some kvs[i] := List.getElem?_eq_getElem hi
    obtain ⟨q, hq, q1, q2, q3⟩ := paired_get r hki
    have ek : es[i].key = .ref q.2.1 := by
      have e3 : es.toList[i]? = some (entryOfKey (tupleKind (mixKind X.prog X.w)) q) := by rw [el, List.getElem?_map, hq]; rfl
      have e4 : es.toList[i]? = some es[i] := by simp [hi']
      rw [e4] at e3
      rw [Option.some.inj e3]
      rfl
    have I1 : Inv X pins σ H { s with heap := h' } := I.turned (t' := s.toks) (fun b ob hb e => (sb.2 b hb).trans e) f0 f1 f3 f4 f5
    obtain ⟨oi, e, c, d⟩ := id st'
    rw [ek]
    exact ⟨_, rfl, go_of (s := { s with heap := h' }) e c d (by decide) ⟨.ref q.2.1, H, I1, rfl, ⟨rfl, kvs[i].1, kvs[i].2, q.2.1, hki, rfl, q2⟩, st', fun b hb => (hf b hb).1⟩⟩
  done := by
    intro X hP hw hK hc i pins s σ H E I hf st hg
    subst hP hw hK
    obtain ⟨rfl, hH⟩ := hg
    obtain ⟨ho, _⟩ := (show ObjOk X.prog X.w H s.heap a (.frz o (.dT kvs)) from I.hok a _ hH)
    obtain ⟨f0, f1, f2, f3, f4, f5⟩ := hf it (by simp)
    rw [← hes] at st
    exact end_raw (I.ok.hd hc) st ho hdat fun h' eb => ⟨rfl, I.turned (t' := s.toks) (fun b o hb e => eb b o hb e) f0 f1 f3 f4 f5⟩
  self := fun _ _ _ _ _ st h => wpAny_pyIter_keyiter st h
section
variable {X:Cx} {pins:List (Addr×Obj)} {σ:St} {H:Hp} {s:Shared} {a:Addr} {o:Obj} {kvs:List (List Key×V)}
theorem Inv.freeze(I:Inv X pins σ H s)(hH:H a=some (.dT kvs))(ho:s.heap.get? a=some o):Inv X pins σ (upd H a (.frz o (.dT kvs))) s:=by
 have ne:∀ b u,H b=some u->u≠.dT kvs->b≠a:=fun b u e n z=>by rw [z,hH] at e;cases e;exact n rfl
 have nn:∀ b,H b=none->b≠a:=fun b e z=>by rw [z,hH] at e;cases e
 refine I.step (g':=s.gens) (d':=s.drawn) (t':=s.toks) (h':=s.heap) (ch:=[]) (fun b hb=>nomatch hb) (fun b u _ _ _ e _=>e) (fun b u _ _ _ e _=>⟨u.slots,e⟩) (fun b u _ e n=>by rw [upd_ne (nn b n)];exact n) (fun b u _ e=>⟨u,e⟩)
  (fun b xs e=>by rw [upd_ne (ne _ _ e (by intro z;cases z))];exact e) (fun b u xs e=>by rw [upd_ne (ne _ _ e (by intro z;cases z))];exact e) (fun b ps e=>⟨#[],by rw [upd_ne (ne _ _ e (by intro z;cases z)),e];simp⟩) (fun m hm=>hm) (fun b u e=>?_) I.bare
 have stay:∀ {b u},ObjOk X.prog X.w H s.heap b u->ObjOk X.prog X.w (upd H a (.frz o (.dT kvs))) s.heap b u:=fun {b u} x=>x.stay (fun c v _ q=>q) (fun c q=>by rw [upd_ne (ne _ _ q (by intro z;cases z))];exact q) fun c xs q=>by rw [upd_ne (ne _ _ q (by intro z;cases z))];exact q
 by_cases hb:b=a
 ·subst hb
  rw [upd_same] at e
  cases e
  exact⟨ho,stay (I.hok b _ hH)⟩
 ·rw [upd_ne hb] at e
  exact stay (I.hok b u e)
theorem Inv.notFrozen(I:Inv X pins σ H s)(hH:H a=some (.dT kvs)):∀ o u,X.H₀ a≠some (.frz o u):=fun o u e=>by
 have:=I.base.frzs a o u e
 rw [hH] at this
 cases this
theorem Inv.thaw(I:Inv X pins σ H s)(nf:∀ o u,X.H₀ a≠some (.frz o u))(hH:H a=some (.frz o (.dT kvs))):Inv X pins σ (upd H a (.dT kvs)) s:=by
 have ne:∀ b u,H b=some u->u≠.frz o (.dT kvs)->b≠a:=fun b u e n z=>by rw [z,hH] at e;cases e;exact n rfl
 have nn:∀ b,H b=none->b≠a:=fun b e z=>by rw [z,hH] at e;cases e
 have stay:∀ {b u},ObjOk X.prog X.w H s.heap b u->ObjOk X.prog X.w (upd H a (.dT kvs)) s.heap b u:=fun {b u} x=>x.stay (fun c v _ q=>q) (fun c q=>by rw [upd_ne (ne _ _ q (by intro z;cases z))];exact q) fun c xs q=>by rw [upd_ne (ne _ _ q (by intro z;cases z))];exact q
 refine⟨I.ok,I.os,I.bare,⟨I.base.keep,I.base.slot,fun b u e n hx=>by rw [upd_ne (nn b (I.base.free b u e n hx))];exact I.base.free b u e n hx,I.base.there,fun b xs e=>?_,fun b u v e=>?_,fun b ps e=>?_⟩,I.loc,I.cell,by rw [upd_ne (nn _ I.free)];exact I.free,fun x c e=>by rw [upd_ne (nn _ (I.freeC x c e))];exact I.freeC x c e,fun p hp=>?_,fun b u e=>?_,I.len⟩
 ·have:=I.base.tups b xs e
  rw [upd_ne (ne _ _ this (by intro z;cases z))];exact this
 ·have:=I.base.frzs b u v e
  rw [upd_ne (fun z:b=a=>nf u v (by rw [<-z];exact e))];exact this
 ·obtain⟨more,q⟩:=I.base.tbls b ps e
  exact⟨more,by rw [upd_ne (ne _ _ q (by intro z;cases z))];exact q⟩
 ·obtain⟨p1,p2,p3⟩:=I.pin p hp
  exact⟨p1,by rw [upd_ne (nn _ p2)];exact p2,p3⟩
 ·by_cases hb:b=a
  ·subst hb
   rw [upd_same] at e
   cases e
   exact stay (I.hok b _ hH).2
  ·rw [upd_ne hb] at e
   exact stay (I.hok b u e)
def tCompD(k:Nat)(caps:List Nat)(tl:TE)(g:TG)(tf:TT)(te:TE):TE:=fun σ H Q=>tl σ H fun x H1=>∃ (a:Addr) (kvs:List (List Key×V)),x=.ref a/\H1 a=some (.dT kvs) ∧
 ∀ o,CompJ (ItD a o kvs) g tf te (fun v H'=>H' a=some (.frz o (.dT kvs))/\Q v (upd H' a (.dT kvs))) (initC k caps σ) (upd H1 a (.frz o (.dT kvs)))
theorem w_compD{k:Nat}{caps:List Nat}{tl:TE}{g:TG}{tf:TT}{te:TE}{Q:VK}:tCompD k caps tl g tf te σ H Q=tl σ H fun x H1=>∃ (a:Addr) (kvs:List (List Key×V)),x=.ref a/\H1 a=some (.dT kvs) ∧
 ∀ o,CompJ (ItD a o kvs) g tf te (fun v H'=>H' a=some (.frz o (.dT kvs))/\Q v (upd H' a (.dT kvs))) (initC k caps σ) (upd H1 a (.frz o (.dT kvs))):=rfl
theorem dict_it{tg:Expr}{R:Value->Shared->Prop}{E:Value->Shared->Prop}(I:Inv X pins σ H s)(hH:H a=some (.dT kvs))
  (h:∀ o it tn s2,s.heap.get? a=some o->Inv X pins σ (upd H a (.frz o (.dT kvs))) s2->Turn X.prog X.w X.K tg (ItD a o kvs) [it] it tn->tn 0 s2.heap->(∀ b∈[it],FpOk X pins (upd H a (.frz o (.dT kvs))) b)->R (.ref it) s2) :
  wpAny (model X.prog X.w) X.A (pyIter (.ref a)) R E s:=by
 obtain⟨z,y,xs,r,o,es,ep,ho,ex,ed,el,nd⟩:=(show ObjOk X.prog X.w H s.heap a (.dT kvs) from I.hok a _ hH)
 have hes:es.size=kvs.length:=by
  have h1:es.toList.length=xs.length:=by rw [el,List.length_map]
  have h2:kvs.length=xs.length:=Paired.length r
  rw [<-Array.length_toList];omega
 refine iter_raw y ho ex ed ?_
 have I1:=I.freeze hH ho
 refine h o s.heap.objs.size (fun i h=>h.IsKeyIter s.heap.objs.size a i es.size ep) _ ho (I1.kept (t':=s.toks) fun b o e=>Heap.get?_push_of_some _ e) (turn_dict a _ o es ep kvs ed hes) ⟨_,Heap.get?_push_size _ rfl,rfl,rfl⟩ fun b hb=>?_
 have e:b=s.heap.objs.size:=by simpa using hb
 subst e
 exact I1.fpOk (Nat.le_refl _) (I1.hok.fresh (Nat.le_refl _))
theorem ps_setCD{i:Nat}{x:Str}{own ns:List Str}{caps:List Nat}{elt tg iter:Expr}{ifs:List Expr}{scope:Scope}{pos pos' spos:Pos}{tl:TE}{g:TG}{tf:TT}{te:TE}(hN:X.N.Nodup)(hi:X.N[i]? = some x)(hx:Loc X.env.scope x)(hc:X.calm=true)(S:CScope scope ns)(cp:Caps X scope ns caps)(hit:PE X iter tl)
  (hg:∀ C s H fp pn,PG (cxC X (own++ns) scope C s H fp pn) tg g) (ht:∀ C s H fp pn,PF (cxC X (own++ns) scope C s H fp pn) ifs tf) (he:∀ C s H fp pn,PE (cxC X (own++ns) scope C s H fp pn) elt te)
  (hs:∀ x,foldedSetIterable iter X.env x=pure x:=by intro _;rfl) (hsw:swapsWith (.ListComp elt [⟨tg,iter,ifs,0⟩] scope pos) (some (.Name x pos')) spos.line X.env=pure true:=by rfl)
  (hf:X.fn x=true\/X.env.scope.names.lookup x=some .local:=by first | exact .inl rfl | exact .inr rfl | assumption) :
  PS X (.Assign [.Name x pos'] (.ListComp elt [⟨tg,iter,ifs,0⟩] scope pos) spos) (tAsg (tCompD own.length caps tl g tf te) (gName i)):=by
 intro pins s σ H D I h
 rw [exec_Assign_Name_used _ _ _ _ hsw]
 refine wpAny_bind (wpAny_standAt (wpAny_bind ?_))
 show wpAny _ X.A (do let _ <-comprehension (.ListComp elt [⟨tg,iter,ifs,0⟩] scope pos) scope X.env _ (newList []) false (eval iter X.env) (some (assign (.Name x pos') X.env))) _ _ s
 refine wpAny_bind (wpAny_mono (wpAny_comprehension_free (use:=some (assign (.Name x pos') X.env)) (Q:=fun _ s'=>SP X pins D .next s') rfl hs (cp.cl I S) S.kind S.names
  (thn (hit pins s σ H _ I h) fun v s1 ⟨y,H1,I1,r1,q1⟩=>?_)) (fun _ s' hq=>wpAny_pure (wpAny_pure hq)) fun _ _ e=>e)
 obtain⟨a,kvs,e,hH,hJ⟩:=q1
 subst e
 cases r1
 refine dict_it (tg:=tg) I1 hH fun o it tn s2 ho I2 T st2 f2=>?_
 refine comp_run hc S cp hg ht he I2 T st2 f2 (hJ o) (RR:=fun acc C=>compPost (model X.prog X.w) X.A X.xe (some (assign (.Name x pos') X.env)) (fun _ s'=>SP X pins D .next s') acc C) fun L C m s' H' ys hDC hn fC I' q=>?_
 obtain⟨q1,q2⟩:=q
 show wpAny _ X.A (assign (.Name x pos') X.env (.ref L)) _ _ _
 refine wpAny_assign_Name (store_ok2 I' hN hi hx (v:=.ref L) (u:=.ref L) rfl (fun s'' I'' ⟨b,sb,hb⟩=>?_) hf)
 obtain⟨f0,f1,f2,f3,f4,f5⟩:=fC
 have hCb:C≠b:=by
  rcases hb with z | z
  ·rw [z];exact f1
  ·exact fun y=>f4 _ _ z y.symm
 exact⟨m,hn.sameBut sb hCb,fun h' hs'=>⟨_,_,(I''.turned (t':=s''.toks) (fun b o hb e=>(hs'.2 b hb).trans e) f0 f1 f3 f4 f5).thaw (I1.notFrozen hH) q1,q2⟩⟩
theorem comp_dict{g:TG}{tf:TT}{te:TE}{Q:VK}(hsz:kvs.length<=sizeLine)(Pv:Nat->List V->St->Hp->Prop)(h0:Pv 0 [] σ H)(hl:∀ i ys σ H,Pv i ys σ H->H a=some (.frz o (.dT kvs))/\ys.length<=i)
  (hs:∀ i k v b ys σ H (N:List V->St->Hp->Prop),kvs[i]? = some (k,v)->H b=some (.tup (k.map kV))->Pv i ys σ H->(∀ ys σ H,Pv (i+1) ys σ H->N ys σ H)->g (.ref b) σ H fun σ2 H2=>tf σ2 H2 fun b H3=>if b=true then te σ2 H3 fun y H4=>N (ys++[y]) σ2 H4 else N ys σ2 H3)
  (hd:∀ ys σ H p,Pv kvs.length ys σ H->H p=none->Q (.ref p) (upd H p (.lst ys))):CompJ (ItD a o kvs) g tf te Q σ H:=by
 refine comp_by kvs.length hsz Pv h0 (fun i ys σ H p=>(hl i ys σ H p).2) (fun i ys σ H hi p=>⟨hi,(hl i ys σ H p).1⟩) (fun ys σ H p=>⟨rfl,(hl _ ys σ H p).1⟩) ?_ hd
 rintro i ys σ H x H' N hi p ⟨rfl,k,v,b,h1,rfl,h2⟩ hN
 exact hs i k v b ys σ H' N h1 h2 p hN
theorem w_dget{td ty:TE}{Q:VK}:tDGet td ty σ H Q=td σ H fun x H1=>ty σ H1 fun y H2=>∃ a v,x=.ref a/\DGet H2 a y (some v)/\Q v H2:=rfl
theorem w_dput{td ty tv:TE}{D:Ends}:sDPut td ty tv D σ H=tv σ H fun v H1=>td σ H1 fun x H2=>ty σ H2 fun y H3=>∃ a H4,x=.ref a/\DPut H3 a y v H4/\D.nx σ H4:=rfl
theorem w_dnewT{Q:VK}:tDNewT σ H Q=∀ p,H p=none->Q (.ref p) (upd H p (.dT [])):=rfl
theorem w_dnewK{Q:VK}:tDNewK σ H Q=∀ p,H p=none->Q (.ref p) (upd H p (.dK [])):=rfl
end
end L2
namespace L2
open PySem PySem.Spec PyProof.Rows
def mxZ(z:Nat->Int):Nat->Option Int
 | 0=>none
 | i+1=>some (match mxZ z i with | none=>z i | some m=>if m<z i then z i else m)
def boA(b:Option Value):Array Value:=match b with | none=>#[] | some v=>#[v,v]
def boIs(b:Option Value)(m:Option Int):Prop:=match b,m with | none,none=>True | some v,some i=>∃ t,v=.int i t | _,_=>False
section
variable {prog:Program} {w:World} {A:Around} {R:Result->Shared->Prop} {I:Addr} {fp wr:List Addr} {n:Nat} {P:Nat->Value->Prop} {St:Nat->Heap->Prop} {z:Nat->Int} {d:Value}
abbrev maxAgain (I S:Addr) (d:Value):Code:=.builtin "max.loop" ⟨[.ref I,.none,.ref S],[("default",d)]⟩
theorem max_loopD(W:Walks prog w A.in1 I fp wr n P St)(hP:∀ i v,P i v->∃ t,v=.int (z i) t)(S:Addr)(hSf:S∉fp):∀ (k i:Nat) (s:Shared) (b:Option Value) (c:Nat),n - i=k->i<=n->St i s.heap->boIs b (mxZ z i) →
  s.heap.get? S=some { cls:=.type "list",dict:=none,data:=.seq (boA b) c,slots:=#[] } →
  (∀ v h' tk,(match mxZ z n with | none=>v=d | some m=>∃ t,v=.int m t)->(∀ a o,a∉wr->a≠S->s.heap.get? a=some o->h'.get? a=some o)->R (.ok (.ret v)) { s with heap:=h',toks:=tk }) →
  codeAny (model prog w) A (maxAgain I S d) R s:=by
 have hSw:S∉wr:=fun h=>hSf (W.sub _ h)
 have again':(toString "max"++toString ".loop":String)="max.loop":=by decide
 intro k
 induction k with
 | zero=>
  intro i s b c hk hi hst hb hS hR
  have hin:i=n:=by omega
  subst hin
  refine codeAny_builtin F.entry_max_loop ?_
  rw [Around.under_plainId F.plain_max_loop _]
  refine wpAny_bind (m:=seqItems? (.ref S)) (wpAny_seqItems hS rfl (wpAny_bind (m:=tryCatch (pyNext (.ref I)) _) (wpAny_tryCatch (W.done s _ _ hst fun h' tk hk'=>?_))))
  have hS':=hk' S _ hSw hS
  cases b with
  | none=>
   cases hm:mxZ z i with
   | some m=>rw [hm] at hb;exact hb.elim
   | none=>
    refine wpAny_bind (m:=rule _) (wpAny_rule (wpAny_pure (hR d h' tk (by rw [hm]) fun a o h1 h2 e=>hk' a o h1 e)))
  | some v=>
   cases hm:mxZ z i with
   | none=>rw [hm] at hb;exact hb.elim
   | some m=>
    rw [hm] at hb
    obtain⟨t,rfl⟩:=hb
    refine wpAny_bind (m:=updateSeq S fun _=>#[]) (wpAny_updateSeq hS' rfl (wpAny_bind (wpAny_letGo (wpAny_pure ?_))) (by show 2<=sizeLine;decide) (Nat.zero_le _))
    exact hR _ _ tk (by rw [hm];exact⟨t,rfl⟩) fun a o h1 h2 e=>(Heap.get?_update_other _ _ (Ne.symm h2)).trans (hk' a o h1 e)
 | succ k ih=>
  intro i s b c hk hi hst hb hS hR
  have hlt:i<n:=by omega
  refine codeAny_builtin F.entry_max_loop ?_
  rw [Around.under_plainId F.plain_max_loop _]
  refine wpAny_bind (m:=seqItems? (.ref S)) (wpAny_seqItems hS rfl (wpAny_bind (m:=tryCatch (pyNext (.ref I)) _) (wpAny_tryCatch (W.item i s _ _ hlt hst fun v h' tk hPv hst' hk'=>?_))))
  have hS':=hk' S _ hSw hS
  obtain⟨t,rfl⟩:=hP i v hPv
  have onS:∀ f,St (i+1) (h'.update S f):=fun f=>W.frame _ _ _ hst' fun a ha o e=>(Heap.get?_update_other _ _ (fun q:S=a=>hSf (q▸ha))).trans e
  have fin:∀ f v' h'' tk'',(match mxZ z n with | none=>v'=d | some m=>∃ t,v'=.int m t)->(∀ a o,a∉wr->a≠S->(h'.update S f).get? a=some o->h''.get? a=some o)->R (.ok (.ret v')) { s with heap:=h'',toks:=tk'' }:=fun f v' h'' tk'' q1 q2=>
   hR v' h'' tk'' q1 fun a o h1 h2 e=>q2 a o h1 h2 ((Heap.get?_update_other _ _ (Ne.symm h2)).trans (hk' a o h1 e))
  cases b with
  | none=>
   cases hm:mxZ z i with
   | some m=>rw [hm] at hb;exact hb.elim
   | none=>
    refine wpAny_bind (m:=updateSeq S fun _=>#[.int (z i) t,.int (z i) t]) (wpAny_updateSeq hS' rfl ?_)
    rw [again']
    refine wpAny_pure ⟨plainId_quiet F.plain_max_loop _,ih (i+1) _ (some (.int (z i) t)) _ (by omega) hlt (onS _) (show ∃ u,Value.int (z i) t=.int _ u by rw [hm];exact⟨t,rfl⟩) (Heap.get?_update_self _ hS' rfl) (fin _)⟩
  | some v=>
   cases hm:mxZ z i with
   | none=>rw [hm] at hb;exact hb.elim
   | some m=>
    rw [hm] at hb
    obtain⟨u,rfl⟩:=hb
    have gt:=CmpOf.ints_gt (prog:=prog) (w:=w) (A:=A.in1) (P:=fun j v=>∃ t,v=.int (if j=0 then z i else m) t) (fun j=>if j=0 then z i else m) fun _ _ h=>h
    refine wpAny_bind (m:=tryCatch (holding [Value.int (z i) t,Value.int (z i) t] _) _) (wpAny_tryCatch (wpAny_holding (wpAny_bind (gt 0 1 _ _ _ _ _ ⟨t,rfl⟩ ⟨u,rfl⟩ (wpAny_bind (wpAny_holding (wpAny_truthy_bool (wpAny_bind (wpAny_letGo (wpAny_pure ?_))))))))))
    rw [again']
    split
    ·rename_i hq
     have hgt:m<z i:=of_decide_eq_true (show decide (m<z i)=true from hq)
     refine wpAny_bind (m:=updateSeq S fun _=>#[.int (z i) t,.int (z i) t]) (wpAny_updateSeq hS' rfl (wpAny_bind (wpAny_letGo ?_)) (by show 2<=sizeLine;decide) (by show 2<=sizeLine+1;decide))
     refine wpAny_pure ⟨plainId_quiet F.plain_max_loop _,ih (i+1) _ (some (.int (z i) t)) _ (by omega) hlt (onS _) (show ∃ u,Value.int (z i) t=.int _ u by rw [hm];simp only [if_pos hgt];exact⟨t,rfl⟩) (Heap.get?_update_self _ hS' rfl) (fin _)⟩
    ·rename_i hq
     have hgt:¬ m<z i:=fun q=>hq (show decide (m<z i)=true from decide_eq_true q)
     refine wpAny_bind (wpAny_letGo (wpAny_pure ⟨plainId_quiet F.plain_max_loop _,ih (i+1) _ (some (.int m u)) c (by omega) hlt hst' (show ∃ u',Value.int m u=.int _ u' by rw [hm];simp only [if_neg hgt];exact⟨u,rfl⟩) hS' fun v' h'' tk'' q1 q2=>?_⟩))
     exact hR v' h'' tk'' q1 fun a o h1 h2 e=>q2 a o h1 h2 (hk' a o h1 e)
end
def mxS(m:Option Int)(x:Int):Option Int:=match m with | none=>some x | some y=>some (if y<x then x else y)
def maxD(ns:List Int)(d:Int):Int:=(ns.foldl mxS none).getD d
theorem mxZ_fold(ns:List Int):∀ i,i<=ns.length->mxZ (fun j=>ns.getD j 0) i=(ns.take i).foldl mxS none
 | 0,_=>by simp [mxZ]
 | i+1,h=>by
  have hi:i<ns.length:=h
  rw [List.take_add_one,List.getElem?_eq_getElem hi]
  simp only [Option.toList_some,List.foldl_append,List.foldl_cons,List.foldl_nil]
  rw [<-mxZ_fold ns i (by omega)]
  show some _=_
  have e:ns.getD i 0=ns[i]:=by simp [List.getD,hi]
  simp only [e]
  cases mxZ (fun j=>ns.getD j 0) i<;>rfl
def rMaxD(K:PySem.W.Frag):V->V->Hp->VK->Prop:=fun x y H Q=>∃ (p:Addr) (ns:List Int) (d:Int),x=.ref p/\y=.int d/\SqL K H p (ns.map V.int)/\Q (.int (maxD ns d)) H
theorem ints_getD':∀ {us:List Value} {ns:List Int},IntsAre us ns->∀ i,i<us.length->∃ t,us.getD i Value.none=.int (ns.getD i 0) t
 | _,_,.nil,i,h=>by simp at h
 | _,_,.cons n t r,0,_=>⟨t,rfl⟩
 | _,_,.cons n t r,i+1,h=>by
  obtain⟨t',e⟩:=ints_getD' r i (by simpa using h)
  exact⟨t',by simpa using e⟩
section
variable {X:Cx}
theorem call_maxD(hc:X.calm=true){pins:List (Addr×Obj)}{σ:St}{H:Hp}{s:Shared}{x y:V}{u v:Value}{Q:VK}(I:Inv X pins σ H s)(rx:RelV x u)(ry:RelV y v)(h:rMaxD X.K x y H Q):
  wpAny (model X.prog X.w) X.A (call (.builtin "max") [u] [(Str.ofString "default",v)]) (EP X pins σ Q) X.xe s:=by
 obtain⟨p,ns,d,rfl,rfl,hq,q⟩:=h
 cases rx
 obtain⟨td,rfl⟩:=ry
 obtain⟨its,rv,pl,hz⟩:=I.list hq
 have hi:=ints_are rv
 have hil:its.length=ns.length:=by have:=rv.length;simpa using this.symm
 have hl:=pl.isList
 have hlt:p<s.heap.objs.size:=by obtain⟨_,e,_⟩:=hl;exact Heap.lt_size e
 have key:∀ R:Result->Shared->Prop,(∀ v h' tk,(match mxZ (fun j=>ns.getD j 0) its.toArray.size with | none=>v=Value.int d td | some m=>∃ t,v=.int m t)->(∀ a o,s.heap.get? a=some o->h'.get? a=some o)->R (.ok (.ret v)) { s with heap:=h',toks:=tk }) →
   codeAny (model X.prog X.w) X.A (.call (.builtin "max") ⟨[.ref p],[(Str.ofString "default",.int d td)]⟩) R s:=by
  intro R hR
  refine codeAny_call_builtin F.plain_max F.entry_max ?_
  have body:wpAny (model X.prog X.w) X.A.in1 (Builtin.«max» ⟨[.ref p],[(Str.ofString "default",.int d td)]⟩) (fun fin s'=>match fin with | .done f=>R (.ok f) s' | .again c'=>c'.quiet=true/\codeAny (model X.prog X.w) X.A c' R s') (fun e s'=>R (.error e) s') s:=by
   refine wpAny_bind (m:=Builtin.Builtins.bindParams "max" ["key","default"] 0 ⟨[],[(Str.ofString "default",.int d td)]⟩) (wpAny_of_eq (show _=pure [none,some (Value.int d td)] from rfl) ?_)
   refine wpAny_bind (wpAny_pure ?_)
   refine wpAny_bind (wpAny_pyIter_list hl ?_)
   refine wpAny_bind (wpAny_newObj_type ?_)
   have again':(toString "max"++toString ".loop":String)="max.loop":=by decide
   rw [again']
   have W:=Walks.list (prog:=X.prog) (w:=X.w) (A:=X.A.in1) (I.ok.hd hc) s.heap.objs.size p (Nat.ne_of_lt hlt) its.toArray
   have hI:((s.heap.push { cls:=.type "list_iterator",data:=.fields #[.ref p,.int 0 0] }).push { cls:=.type "list",data:=.seq #[] }).get? s.heap.objs.size=some { cls:=.type "list_iterator",data:=.fields #[.ref p,.int 0 0] }:=Heap.get?_push_of_some _ (Heap.get?_push_size _ rfl)
   refine wpAny_pure ⟨plainId_quiet F.plain_max_loop _,max_loopD (z:=fun j=>ns.getD j 0) W (fun i v hv=>?_) _ ?_ _ 0 _ none 0 rfl (Nat.zero_le _) ?_ trivial (Heap.get?_push_size _ rfl) fun v h' tk hv hk=>?_⟩
   ·have hv':its[i]? = some v:=by simpa using hv
    obtain⟨t,e⟩:=ints_getD' hi i (List.getElem?_eq_some_iff.mp hv').1
    exact⟨t,by rw [<-e];simp [List.getD,hv']⟩
   ·rw [Heap.size_push]
    intro z
    rcases List.mem_cons.mp z with e | e
    ·exact Nat.succ_ne_self _ e
    ·have e':s.heap.objs.size+1=p:=by simpa using e
     exact absurd hlt (by rw [<-e'];exact Nat.not_lt.mpr (Nat.le_succ _))
   ·exact⟨⟨_,hI,rfl,rfl⟩,(hl.push _).push _⟩
   ·refine hR v h' tk hv fun a o e=>hk a o ?_ ?_ (Heap.get?_push_of_some _ (Heap.get?_push_of_some _ e))
    ·exact fun z=>by rw [List.mem_singleton.mp z] at e;exact Nat.lt_irrefl _ (Heap.lt_size e)
    ·exact fun z=>by rw [z,Heap.size_push] at e;exact absurd (Heap.lt_size e) (Nat.not_lt.mpr (Nat.le_succ _))
  simp only [checkBuiltinCall,F.kind_max]
  have ha:argsOk "max" ⟨[.ref p],[(Str.ofString "default",.int d td)]⟩:=by unfold argsOk;kernel_rfl
  cases hsig:Manifest.signature? "max" with
  | none=>exact wpAny_pure body
  | some sig=>
   simp only [argsOk,hsig] at ha
   show wpAny _ X.A.in1 (Bind.checkArgs "max" sig _) _ _ s
   rw [show Bind.checkArgs "max" sig ⟨[.ref p],[(Str.ofString "default",.int d td)]⟩=pure () from ha]
   exact wpAny_pure body
 refine wpAny_call (key _ fun v h' tk hv hk=>?_)
 have e1:its.toArray.size=ns.length:=by rw [List.size_toArray,hil]
 rw [e1,mxZ_fold ns ns.length (Nat.le_refl _),List.take_length] at hv
 have fin:v=.int (maxD ns d) td\/∃ t,v=.int (maxD ns d) t:=by
  unfold maxD
  revert hv
  generalize ns.foldl _ none=o
  intro hv
  cases o with
  | none=>exact .inl hv
  | some m=>exact .inr hv
 refine⟨.int (maxD ns d),H,I.kept hk,?_,q⟩
 rcases fin with z | z
 ·exact⟨td,z⟩
 ·exact z
theorem pe_maxD {e e2:Expr} {te td:TE} {p kp pos:Pos} (hc:X.calm=true) (hg:Gl X "max") (hm:X.mg "max"=none) (he:PE X e te) (hd:PE X e2 td) (hs:starEach [e] X.env=[(false,eval e X.env)]:=by rfl) :
  PE X (.Call (.Name "max" p) [e] [⟨some "default",e2,kp⟩] pos) (tOp (rMaxD X.K) te td):=by
 intro pins s σ H Q I h
 refine wpAny_Call_Name_kw (ld_blt I hg hm PyProof.Rows.boot_max ?_)
 refine callWith_kw (thn (pa_cons he pa_nil hs pos pins s σ H (fun vs H1=>match vs with | [x]=>td σ H1 fun y H2=>rMaxD X.K x y H2 Q | _=>False) I h) fun us s1 ⟨vs,H1,I1,r1,q1⟩=>?_) (by rw [hs];rfl) (by rw [hs];rfl)
 match vs,r1,q1 with
 | [x],r1,q1=>
  obtain⟨u,rfl,rx⟩:=vals1 r1
  refine kws_cons (thn (hd pins s1 σ H1 _ I1 q1) fun v s2 ⟨y,H2,I2,ry,q2⟩=>kws_nil ?_)
  exact call_maxD hc I2 rx ry q2
theorem w_maxD{K:PySem.W.Frag}{a:Addr}{d:Int}{H:Hp}{Q:VK}:rMaxD K (.ref a) (.int d) H Q=∃ ns:List Int,SqL K H a (ns.map V.int)/\Q (.int (maxD ns d)) H:=
 propext ⟨fun ⟨_,ns,_,e1,e2,h⟩=>by cases e1;cases e2;exact⟨ns,h⟩,fun ⟨ns,h⟩=>⟨a,ns,d,rfl,rfl,h⟩⟩
theorem hu_1{A:Around}{k:Nat}(hr:Room k A):A.units+1<cLine:=by have:=hr.units;omega
end
end L2
namespace Rm
open PySem L2
def inZ(p q:Bw):Bool:=decide (q.1<p.1)&&decide (p.2<q.2)
def spanZ(p:Bw):Int:=p.2 - p.1
abbrev Acc:=List (Bw×Int)
structure Top (acc:Acc) (q:Bw) (m:Int):Prop where
 nn:0<=m
 le:∀ e∈acc,inZ e.1 q=true->e.2<=m
 is:m=0\/∃ e∈acc,inZ e.1 q=true/\e.2=m
theorem inZ_span{p q:Bw}(h:inZ p q=true):spanZ p<spanZ q:=by
 unfold inZ at h
 rw [Bool.and_eq_true,decide_eq_true_eq,decide_eq_true_eq] at h
 unfold spanZ;omega
structure Kn (qs:List Bw) (i:Nat) (acc:Acc):Prop where
 keys:acc.map (·.1)=qs.take i
 pos:∀ e∈acc,1<=e.2
 top:∀ e∈acc,Top acc e.1 (e.2 - 1)
theorem Kn.start(qs:List Bw):Kn qs 0 []:=⟨by simp,(fun e h=>nomatch h),(fun e h=>nomatch h)⟩
theorem Kn.len{qs:List Bw}{i:Nat}{acc:Acc}(K:Kn qs i acc)(h:i<=qs.length):acc.length=i:=by
 have:=congrArg List.length K.keys
 rw [List.length_map,List.length_take] at this
 omega
def innerZ(acc:Acc)(q:Bw):List Int:=(acc.filter fun e=>inZ e.1 q).map (·.2)
theorem fold_max(ns:List Int):∀ o:Option Int,(∀ y,o=some y->1<=y)->(∀ n∈ns,1<=n)->∀ r,ns.foldl mxS o=r →
  (∀ y,o=some y->∃ z,r=some z/\y<=z)/\(∀ n∈ns,∃ z,r=some z/\n<=z)/\(r=o\/∃ n∈ns,r=some n):=by
 induction ns with
 | nil=>intro o h1 _ r e;subst e;exact⟨fun y e=>⟨y,e,Int.le_refl _⟩,(fun n h=>nomatch h),.inl rfl⟩
 | cons n ns ih=>
  intro o h1 h2 r e
  rw [List.foldl_cons] at e
  obtain⟨a,b,c⟩:=ih (mxS o n) (fun y hy=>by
   cases o with
   | none=>cases hy;exact h2 n List.mem_cons_self
   | some y0=>
    have hy':(if y0<n then n else y0)=y:=Option.some.inj hy
    have:=h1 y0 rfl
    have:=h2 n List.mem_cons_self
    split at hy'<;>omega) (fun x hx=>h2 x (List.mem_cons_of_mem _ hx)) r e
  cases o with
  | none=>
   obtain⟨z,hz1,hz2⟩:=a n rfl
   refine⟨(fun y hy=>nomatch hy),fun x hx=>?_,?_⟩
   ·rcases List.mem_cons.mp hx with e | e
    ·subst e;exact⟨z,hz1,hz2⟩
    ·exact b x e
   ·rcases c with c | ⟨x,hx,c⟩
    ·exact .inr ⟨n,List.mem_cons_self,c⟩
    ·exact .inr ⟨x,List.mem_cons_of_mem _ hx,c⟩
  | some y0=>
   obtain⟨z,hz1,hz2⟩:=a (if y0<n then n else y0) rfl
   refine⟨fun y hy=>?_,fun x hx=>?_,?_⟩
   ·cases hy
    refine⟨z,hz1,?_⟩
    split at hz2<;>omega
   ·rcases List.mem_cons.mp hx with e | e
    ·subst e
     refine⟨z,hz1,?_⟩
     split at hz2<;>omega
    ·exact b x e
   ·rcases c with c | ⟨x,hx,c⟩
    ·by_cases h:y0<n
     ·have c:r=some (if y0<n then n else y0):=c
      rw [if_pos h] at c;exact .inr ⟨n,List.mem_cons_self,c⟩
     ·have c:r=some (if y0<n then n else y0):=c
      rw [if_neg h] at c;exact .inl c
    ·exact .inr ⟨x,List.mem_cons_of_mem _ hx,c⟩
theorem maxD_top{acc:Acc}{q:Bw}(hp:∀ e∈acc,1<=e.2):Top acc q (maxD (innerZ acc q) 0):=by
 have hin:∀ n,n∈innerZ acc q<->∃ e∈acc,inZ e.1 q=true/\e.2=n:=fun n=>by
  unfold innerZ
  rw [List.mem_map]
  constructor
  ·rintro⟨e,he,rfl⟩
   obtain⟨h1,h2⟩:=List.mem_filter.mp he
   exact⟨e,h1,h2,rfl⟩
  ·rintro⟨e,h1,h2,rfl⟩
   exact⟨e,List.mem_filter.mpr ⟨h1,h2⟩,rfl⟩
 have hpos:∀ n∈innerZ acc q,1<=n:=fun n hn=>by obtain⟨e,h1,_,rfl⟩:=(hin n).mp hn;exact hp e h1
 obtain⟨_,b,c⟩:=fold_max (innerZ acc q) none (fun y h=>nomatch h) hpos _ rfl
 unfold maxD
 generalize (innerZ acc q).foldl _ none=r at b c ⊢
 rcases c with c | ⟨n,hn,c⟩
 ·subst c
  refine⟨Int.le_refl _,fun e he hi=>?_,.inl rfl⟩
  obtain⟨z,hz,_⟩:=b e.2 ((hin _).mpr ⟨e,he,hi,rfl⟩)
  cases hz
 ·subst c
  have:=hpos n hn
  refine⟨by simp;omega,fun e he hi=>?_,.inr ?_⟩
  ·obtain⟨z,hz,h2⟩:=b e.2 ((hin _).mpr ⟨e,he,hi,rfl⟩)
   cases hz
   exact h2
  ·obtain⟨e,h1,h2,h3⟩:=(hin n).mp hn
   exact⟨e,h1,h2,h3⟩
theorem Kn.next{qs:List Bw}{i:Nat}{acc:Acc}{q:Bw}(K:Kn qs i acc)(hq:qs[i]? = some q)(hs:qs.Pairwise (fun a b=>spanZ a<=spanZ b)):Kn qs (i+1) (acc++[(q,1+maxD (innerZ acc q) 0)]):=by
 have T:=maxD_top (acc:=acc) (q:=q) K.pos
 have hi:=(List.getElem?_eq_some_iff.mp hq).1
 have hle:∀ e∈acc,spanZ e.1<=spanZ q:=fun e he=>by
  have hm:e.1∈qs.take i:=by rw [<-K.keys];exact List.mem_map.mpr ⟨e,he,rfl⟩
  obtain⟨j,hj,ej⟩:=List.getElem_of_mem hm
  rw [List.length_take] at hj
  rw [List.getElem_take] at ej
  rw [<-ej]
  have:=List.pairwise_iff_getElem.mp hs j i (by omega) hi (by omega)
  have e2:qs[i]=q:=(List.getElem?_eq_some_iff.mp hq).2
  rw [e2] at this
  exact this
 have hno:∀ e∈acc,inZ q e.1=false:=fun e he=>by
  cases z:inZ q e.1 with
  | false=>rfl
  | true=>have:=inZ_span z;have:=hle e he;omega
 have hself:inZ q q=false:=by
  cases z:inZ q q with
  | false=>rfl
  | true=>have:=inZ_span z;omega
 refine⟨by rw [List.map_append,K.keys,List.take_add_one,hq];rfl,fun e he=>?_,fun e he=>?_⟩
 ·rcases List.mem_append.mp he with z | z
  ·exact K.pos e z
  ·have:e=(q,1+maxD (innerZ acc q) 0):=by simpa using z
   subst this
   have:=T.nn
   simp only;omega
 ·have grow:∀ r m,inZ q r=false->Top acc r m->Top (acc++[(q,1+maxD (innerZ acc q) 0)]) r m:=fun r m hr t=>by
   refine⟨t.nn,fun x hx hxi=>?_,t.is.imp id fun ⟨x,h1,h2⟩=>⟨x,List.mem_append_left _ h1,h2⟩⟩
   rcases List.mem_append.mp hx with z | z
   ·exact t.le x z hxi
   ·have:x=(q,1+maxD (innerZ acc q) 0):=by simpa using z
    subst this
    simp only at hxi
    rw [hr] at hxi;cases hxi
  rcases List.mem_append.mp he with z | z
  ·exact grow e.1 _ (hno e z) (K.top e z)
  ·have:e=(q,1+maxD (innerZ acc q) 0):=by simpa using z
   subst this
   have e3:(1+maxD (innerZ acc q) 0) - 1=maxD (innerZ acc q) 0:=by omega
   show Top _ q ((1+maxD (innerZ acc q) 0) - 1)
   rw [e3]
   exact grow q _ hself T
def keyB(p:Bw):List Key:=[Sum.inl p.1,Sum.inl p.2]
def dB(acc:Acc):List (List Key×V):=acc.map fun e=>(keyB e.1,.int e.2)
theorem keyB_inj{p q:Bw}(h:keyB p=keyB q):p=q:=by
 unfold keyB at h
 simp at h
 exact Prod.ext h.1 h.2
theorem dB_val{acc:Acc}(nd:(acc.map (·.1)).Nodup):∀ {e:Bw×Int},e∈acc->valV (dB acc) (keyB e.1)=some (.int e.2):=by
 induction acc with
 | nil=>intro e h;exact nomatch h
 | cons x acc ih=>
  intro e he
  rw [List.map_cons,List.nodup_cons] at nd
  rcases List.mem_cons.mp he with z | z
  ·subst z;exact valV_pos rfl
  ·show valV ((keyB x.1,V.int x.2)::dB acc) _=_
   rw [valV_neg (fun q=>nd.1 (by rw [keyB_inj q];exact List.mem_map.mpr ⟨e,z,rfl⟩))]
   exact ih nd.2 z
theorem dB_none{acc:Acc}{q:Bw}(h:q∉acc.map (·.1)):valV (dB acc) (keyB q)=none:=by
 induction acc with
 | nil=>rfl
 | cons x acc ih=>
  rw [List.map_cons,List.mem_cons] at h
  show valV ((keyB x.1,V.int x.2)::dB acc) _=_
  rw [valV_neg (fun z=>h (.inl (keyB_inj z).symm))]
  exact ih fun z=>h (.inr z)
theorem dB_put{acc:Acc}{q:Bw}{n:Int}(h:q∉acc.map (·.1)):putK (dB acc) (keyB q) (.int n)=dB (acc++[(q,n)]):=by
 rw [putK_new _ (dB_none h)]
 simp [dB]
structure Hts (ps:List Bw) (hs:List Int):Prop where
 len:hs.length=ps.length
 pos:∀ h∈hs,1<=h
 top:∀ (i:Nat) p h,ps[i]? = some p->hs[i]? = some h->Top (ps.zip hs) p (h - 1)
def htOf(acc:Acc)(p:Bw):Int:=((acc.find? fun e=>decide (e.1=p)).map (·.2)).getD 0
theorem htOf_mem{acc:Acc}(nd:(acc.map (·.1)).Nodup):∀ {e:Bw×Int},e∈acc->htOf acc e.1=e.2:=by
 induction acc with
 | nil=>intro e h;exact nomatch h
 | cons x acc ih=>
  intro e he
  rw [List.map_cons,List.nodup_cons] at nd
  unfold htOf
  rw [List.find?_cons]
  rcases List.mem_cons.mp he with z | z
  ·subst z;simp
  ·have:¬ x.1=e.1:=fun q=>nd.1 (by rw [q];exact List.mem_map.mpr ⟨e,z,rfl⟩)
   simp only [this,decide_false]
   exact ih nd.2 z
theorem Kn.hts{qs ps:List Bw}{acc:Acc}(K:Kn qs qs.length acc)(hp:qs.Perm ps)(nd:ps.Nodup):Hts ps (ps.map (htOf acc)):=by
 have hk:acc.map (·.1)=qs:=by rw [K.keys,List.take_length]
 have ndk:(acc.map (·.1)).Nodup:=by rw [hk];exact hp.nodup_iff.mpr nd
 have mem:∀ p,p∈ps->∃ e∈acc,e.1=p:=fun p h=>by
  have:p∈acc.map (·.1):=by rw [hk];exact hp.mem_iff.mpr h
  obtain⟨e,h1,h2⟩:=List.mem_map.mp this
  exact⟨e,h1,h2⟩
 have zip:∀ x,x∈ps.zip (ps.map (htOf acc))<->x∈acc:=fun x=>by
  have e0:ps.zip (ps.map (htOf acc))=ps.map fun p=>(p,htOf acc p):=by
   clear hk ndk mem hp nd
   induction ps with
   | nil=>rfl
   | cons p ps ih=>simp [ih]
  rw [e0,List.mem_map]
  constructor
  ·rintro⟨p,h,rfl⟩
   obtain⟨e,h1,rfl⟩:=mem p h
   rw [htOf_mem ndk h1]
   exact h1
  ·intro h
   refine⟨x.1,?_,by rw [htOf_mem ndk h]⟩
   exact hp.mem_iff.mp (by rw [<-hk];exact List.mem_map.mpr ⟨x,h,rfl⟩)
 refine⟨by simp,fun h hh=>?_,fun i p h h1 h2=>?_⟩
 ·obtain⟨p,hp',rfl⟩:=List.mem_map.mp hh
  obtain⟨e,h1,rfl⟩:=mem p hp'
  rw [htOf_mem ndk h1]
  exact K.pos e h1
 ·obtain⟨e,h3,rfl⟩:=mem p (List.mem_of_getElem? h1)
  rw [List.getElem?_map,h1] at h2
  have h2':htOf acc e.1=h:=Option.some.inj h2
  rw [htOf_mem ndk h3] at h2'
  subst h2'
  have t:=K.top e h3
  exact⟨t.nn,fun x hx=>t.le x ((zip x).mp hx),t.is.imp id fun ⟨x,h1,h2⟩=>⟨x,(zip x).mpr h1,h2⟩⟩
def spSpan:Sp:=fun vs H Q _=>∃ a p,vs=[.ref a]/\tupAt H a p/\Q (.int (spanZ p)) H
def spWithin:Sp:=fun vs H Q _=>∃ a b p q,vs=[.ref a,.ref b]/\tupAt H a p/\tupAt H b q/\Q (.bl (inZ p q)) H
def spHeights:Sp:=fun vs H Q _=>∃ l ps,vs=[.ref l]/\BowsAt H l ps/\ps.Nodup/\ps.length<=40/\∀ l' hs H',H l'=none->Same H H'->H' l'=some (.lst (hs.map V.int))->Hts ps hs->Q (.ref l') H'
end Rm
namespace L2
open PySem PySem.Spec PyProof.Rows
theorem ifN{c:Prop} [Decidable c] {A B:Prop} (h:¬ c) (b:B):if c then A else B:=by rw [if_neg h];exact b
theorem ifY{c:Prop} [Decidable c] {A B:Prop} (h:c) (a:A):if c then A else B:=by rw [if_pos h];exact a
section
variable {X:Cx} {K:PySem.W.Frag}
theorem mt_join' (h:X.K=K):MtM X "str.join" (rJoin K):=h▸mt_join
end
end L2
namespace L2
open PySem PySem.Spec PyProof.Rows
def StrTup (o:Obj) (xs:List Str):Prop:=o.cls=.type "tuple"/\∃ its n,o.data=.seq its n/\its.size<=sizeLine/\Vals (xs.map V.str) its.toList
theorem strTup_of {o:Obj} {xs:List Str} {its:Array Value} {n:Nat} (h1:o.cls=.type "tuple") (h2:o.data=.seq its n) (h3:its.size<=sizeLine) (h4:Vals (xs.map V.str) its.toList):StrTup o xs:=⟨h1,its,n,h2,h3,h4⟩
theorem glob_tup{K:PySem.W.Frag}{h:Heap}{mg:Str->Option Value}{x:Str}{a:Addr}{o:Obj}{xs:List Str}(X:K.In h)(G:h.Ns mainGlobals mg)(y:PySem.W.nsIn K mainGlobals x=some (some (.ref a)))(l:K.lookup a=some o)(t:StrTup o xs):
  ∃ a,mg x=some (.ref a)/\∀ H,SqT K H a (xs.map V.str):=by
 obtain⟨h1,its,n,h2,h3,h4⟩:=t
 exact⟨a,PySem.W.mg_of X G y,fun H=>.inr ⟨o,its,n,l,h1,h2,h3,h4⟩⟩
def tGlobR(K:PySem.W.Frag)(xs:List V):TE:=fun _ H Q=>∀ a,(∀ H,SqT K H a xs)->Q (.ref a) H
theorem pe_globR {X:Cx} {x:Str} {K:PySem.W.Frag} {xs:List V} {pos:Pos} (hg:Gl X x) (hm:∃ a,X.mg x=some (.ref a)/\∀ H,SqT K H a xs) (hd:(x==("__debug__":Str))=false:=by decide):PE X (.Name x pos) (tGlobR K xs):=by
 obtain⟨a,h1,h2⟩:=hm
 intro pins s σ H Q I h
 exact pe_glob (v:=.ref a) hg h1 rfl hd pins s σ H Q I (h a h2)
theorem w_globR{K:PySem.W.Frag}{xs:List V}{σ:St}{H:Hp}{Q:VK}:tGlobR K xs σ H Q=∀ a,(∀ H,SqT K H a xs)->Q (.ref a) H:=rfl
def tCut(t u:TS):TS:=fun D σ H=>∃ J:St->Hp->Prop,t { D with nx:=J } σ H/\∀ σ' H',J σ' H'->u D σ' H'
theorem pss_cut{X:Cx}{st:Stmt}{rest:List Stmt}{t u:TS}(h1:PS X st t)(h2:PSs X rest u):PSs X (st::rest) (tCut t u):=by
 intro pins s σ H D I h
 obtain⟨J,h,hJ⟩:=h
 refine wpAny_execs_cons (thn (h1 pins s σ H { D with nx:=J } I h) fun f s1 q=>?_)
 cases f with
 | next=>
  obtain⟨σ',H',I',q⟩:=q
  exact h2 pins s1 σ' H' D I' (hJ _ _ q)
 | ret v=>exact q
 | brk=>exact q
 | cont=>exact q
end L2
namespace L2
open PySem PySem.Spec PyProof.Rows
section
variable {X:Cx} {es:List Expr} {te:TE} {t:TA}
theorem pa_BinOp{a0:PySem.Expr}{a1:PySem.Operator}{a2:PySem.Expr}{a3:PySem.Pos}(ha:PE X (Expr.BinOp a0 a1 a2 a3) te)(hr:PA X es t):PA X ((Expr.BinOp a0 a1 a2 a3)::es) (tCons te t):=pa_cons ha hr rfl
theorem pa_ListComp{a0:PySem.Expr}{a1:List Comprehension}{a2:PySem.Scope}{a3:PySem.Pos}(ha:PE X (Expr.ListComp a0 a1 a2 a3) te)(hr:PA X es t):PA X ((Expr.ListComp a0 a1 a2 a3)::es) (tCons te t):=pa_cons ha hr rfl
theorem pa_Compare{a0:PySem.Expr}{a1:List CmpOp}{a2:List Expr}{a3:PySem.Pos}(ha:PE X (Expr.Compare a0 a1 a2 a3) te)(hr:PA X es t):PA X ((Expr.Compare a0 a1 a2 a3)::es) (tCons te t):=pa_cons ha hr rfl
theorem pa_Call{a0:PySem.Expr}{a1:List Expr}{a2:List Keyword}{a3:PySem.Pos}(ha:PE X (Expr.Call a0 a1 a2 a3) te)(hr:PA X es t):PA X ((Expr.Call a0 a1 a2 a3)::es) (tCons te t):=pa_cons ha hr rfl
theorem pa_Constant{a0:PySem.Const}{a1:Nat}{a2:PySem.Pos}(ha:PE X (Expr.Constant a0 a1 a2) te)(hr:PA X es t):PA X ((Expr.Constant a0 a1 a2)::es) (tCons te t):=pa_cons ha hr rfl
theorem pa_Subscript{a0:PySem.Expr}{a1:PySem.Expr}{a2:PySem.Pos}(ha:PE X (Expr.Subscript a0 a1 a2) te)(hr:PA X es t):PA X ((Expr.Subscript a0 a1 a2)::es) (tCons te t):=pa_cons ha hr rfl
theorem pa_Name{a0:PySem.Str}{a1:PySem.Pos}(ha:PE X (Expr.Name a0 a1) te)(hr:PA X es t):PA X ((Expr.Name a0 a1)::es) (tCons te t):=pa_cons ha hr rfl
theorem pa_List{a0:List Expr}{a1:PySem.Pos}(ha:PE X (Expr.List a0 a1) te)(hr:PA X es t):PA X ((Expr.List a0 a1)::es) (tCons te t):=pa_cons ha hr rfl
theorem pa_Tuple{a0:List Expr}{a1:Nat}{a2:PySem.Pos}(ha:PE X (Expr.Tuple a0 a1 a2) te)(hr:PA X es t):PA X ((Expr.Tuple a0 a1 a2)::es) (tCons te t):=pa_cons ha hr rfl
theorem pa_Dict{a0:List (Option Expr)}{a1:List Expr}{a2:PySem.Pos}(ha:PE X (Expr.Dict a0 a1 a2) te)(hr:PA X es t):PA X ((Expr.Dict a0 a1 a2)::es) (tCons te t):=pa_cons ha hr rfl
end
end L2
namespace L2
open PySem PySem.Spec PyProof.Rows
theorem w_gSub{to ti:TE}{t:TSet}{v:V}{σ:St}{H:Hp}{q:St->Hp->Prop}:gSub to ti t v σ H q=to σ H fun o H1=>ti σ H1 fun i H2=>t o i v H2 fun H3=>q σ H3:=rfl
end L2
namespace L2
open PySem PySem.Spec PyProof.Rows
theorem cut_intro{t u:TS}{D:Ends}{σ:St}{H:Hp}(J:St->Hp->Prop)(h1:t { nx:=J,rt:=D.rt,bk:=D.bk,ct:=D.ct } σ H)(h2:∀ σ' H',J σ' H'->u D σ' H'):tCut t u D σ H:=⟨J,h1,h2⟩
end L2
namespace Rm
open PySem L2
def intOf:PyData->Int
 | .int n=>n
 | _=>0
theorem wholeD_int:∀ {d:PyData},wholeD d=true->d=.int (intOf d)
 | .int n,_=>rfl
def orderD:PyData->Bool
 | .tuple ds=>decide (ds.length<=20)&&(ds.all wholeD&&(ds.map intOf).isPerm (rngZ 1 ds.length))
 | _=>false
def sideD:PyData->Bool
 | .str z=>decide (z=Str.ofString "l") || decide (z=Str.ofString "r")
 | _=>false
def mazeD:PyData->Bool
 | .tuple [a,b]=>sideD a&&orderD b
 | _=>false
theorem mem_rng1{x:Int}{n:Nat}:x∈rngZ 1 n<->1<=x/\x<=n:=by
 unfold rngZ
 rw [List.mem_map]
 constructor
 ·rintro⟨i,hi,rfl⟩
  have:=List.mem_range.mp hi
  omega
 ·rintro⟨h1,h2⟩
  exact⟨(x - 1).toNat,List.mem_range.mpr (by omega),by omega⟩
theorem rng1_asc(n:Nat):(rngZ 1 n).Pairwise (·<=·):=by
 unfold rngZ
 rw [List.pairwise_map,List.pairwise_iff_getElem]
 intro i j hi hj hij
 simp;omega
theorem rng1_nodup(n:Nat):(rngZ 1 n).Nodup:=by
 unfold rngZ List.Nodup
 rw [List.pairwise_map]
 exact (List.nodup_range (n:=n)).imp fun h e=>h (by omega)
theorem sorted_order{ms ns:List Int}(hp:ms.Perm ns)(hs:ms.Pairwise (·<=·)):decide (ms=rngZ 1 ns.length)=ns.isPerm (rngZ 1 ns.length):=by
 by_cases h:ns.Perm (rngZ 1 ns.length)
 ·rw [List.isPerm_iff.mpr h]
  exact decide_eq_true (PySem.W.ksm_same (hp.trans h) hs (rng1_asc _))
 ·have h2:ns.isPerm (rngZ 1 ns.length)=false:=by
   cases e:ns.isPerm (rngZ 1 ns.length) with
   | false=>rfl
   | true=>exact absurd (List.isPerm_iff.mp e) h
  rw [h2]
  exact decide_eq_false fun e=>h (e▸hp.symm)
theorem lit_l:(Str.ofString "l")=⟨#[108]⟩:=by decide +kernel
theorem lit_r:(Str.ofString "r")=⟨#[114]⟩:=by decide +kernel
theorem side_any (d:PyData):([PyData.str (Str.ofString "l"),.str (Str.ofString "r")].any fun e=>PyData.eqv e d)=sideD d:=by
 cases d with
 | str z=>
  show (decide (Str.ofString "l"=z) || (decide (Str.ofString "r"=z) || false))=_
  rw [Bool.or_false]
  show _=(decide (z=Str.ofString "l") || decide (z=Str.ofString "r"))
  congr 1
  ·exact decide_eq_decide.mpr ⟨Eq.symm,Eq.symm⟩
  ·exact decide_eq_decide.mpr ⟨Eq.symm,Eq.symm⟩
 | _=>rfl
structure Pl (d:PyData) (n:Nat):Prop where
 lay:d.canLay0=true
 deep:d.depth<=n
def spIsSide:Sp:=fun vs H Q _=>∃ x d,vs=[x]/\Dat H x d/\Pl d 60/\Q (.bl (sideD d)) H
def spIsOrder:Sp:=fun vs H Q _=>∃ x d,vs=[x]/\Dat H x d/\∀ H',Same H H'->Q (.bl (orderD d)) H'
def spIsMaze:Sp:=fun vs H Q _=>∃ x d,vs=[x]/\Dat H x d/\Pl d 60/\∀ H',Same H H'->Q (.bl (mazeD d)) H'
mutual
def noL:PyData->Bool
 | .list _=>false
 | .tuple ds=>noLs ds
 | .dict _=>false
 | _=>true
def noLs:List PyData->Bool
 | []=>true
 | d::ds=>noL d&&noLs ds
end
mutual
theorem dat_upd{H:Hp}{l:Addr}{ys:List V}{o:HO}(hl:H l=some (.lst ys)):∀ {x:V} {d:PyData},Dat H x d->noL d=true->Dat (upd H l o) x d
 | _,_,.non,_=>.non
 | _,_,.bl b,_=>.bl b
 | _,_,.int i,_=>.int i
 | _,_,.str x,_=>.str x
 | _,_,.tup h r,n=>.tup (by rw [upd_ne (ne_of h hl (by intro q;cases q))];exact h) (datL_upd hl r n)
 | _,_,.lst h r,n=>nomatch n
theorem datL_upd{H:Hp}{l:Addr}{ys:List V}{o:HO}(hl:H l=some (.lst ys)):∀ {xs:List V} {ds:List PyData},DatL H xs ds->noLs ds=true->DatL (upd H l o) xs ds
 | _,_,.nil,_=>.nil
 | _,_,.cons h r,n=>by
  have n':(noL _&&noLs _)=true:=n
  rw [Bool.and_eq_true] at n'
  exact .cons (dat_upd hl h n'.1) (datL_upd hl r n'.2)
end
theorem ints_dat{H:Hp}:∀ ns:List Int,DatL H (ns.map V.int) (ns.map PyData.int)
 | []=>.nil
 | n::ns=>.cons (.int n) (ints_dat ns)
end Rm
namespace L2
open PySem PySem.Spec PyProof.Rows
section
variable {σ:St} {H:Hp}
theorem w_disp{trs:List (TE×TE)}{Q:VK}:tDisp trs σ H Q=∀ p,H p=none->tPairs trs σ (upd H p (.dK [])) fun ps H2=>H2 p=some (.dK [])/\∃ kvs:List (Key×V),ps=kvs.map (fun kv=>(kV kv.1,kv.2))/\kvs.length<=15/\Q (.ref p) (upd H2 p (.dK (mergeK [] kvs))):=rfl
theorem w_pr0{Q:List (V×V)->Hp->Prop}:tPairs [] σ H Q=Q [] H:=rfl
theorem w_prS{tk tv:TE}{r:List (TE×TE)}{Q:List (V×V)->Hp->Prop}:tPairs ((tk,tv)::r) σ H Q=tk σ H fun x H1=>tv σ H1 fun y H2=>tPairs r σ H2 fun ps H3=>Q ((x,y)::ps) H3:=rfl
theorem w_sl{r:V->Option Int->Option Int->Hp->VK->Prop}{te:TE}{tl th:TO}{Q:VK}:tSl r te tl th σ H Q=te σ H fun x H1=>tl σ H1 fun l H2=>th σ H2 fun u H3=>r x l u H3 Q:=rfl
theorem w_part{t:TE}{Q:Option Int->Hp->Prop}:tPart t σ H Q=t σ H fun x H1=>∃ i,x=.int i/\Q (some i) H1:=rfl
theorem w_nopart{Q:Option Int->Hp->Prop}:tNoPart σ H Q=Q none H:=rfl
end
end L2
namespace Rm
open PySem L2
def sd (b:Bool):Str:=if b then Str.ofString "r" else Str.ofString "l"
theorem sd_l (b:Bool):(sd b=Str.ofString "l")=(b=false):=by cases b<;>simp [sd,lit_l,lit_r]
theorem sd_r (b:Bool):(sd b=Str.ofString "r")=(b=true):=by cases b<;>simp [sd,lit_l,lit_r]
theorem lit_lr:(Str.ofString "lr")=⟨#[108,114]⟩:=by decide +kernel
theorem lr_at {i:Int} (h0:0<=i) (h1:i<2):atI (Str.ofString "lr").cps.toList i=some (if i=1 then 114 else 108):=by
 have e:i=0\/i=1:=by omega
 rw [lit_lr]
 rcases e with rfl | rfl<;>rfl
theorem lr_sd(i:Int):(⟨#[if i=1 then 114 else 108]⟩:Str)=sd (decide (i=1)):=by
 by_cases h:i=1
 ·simp [h,sd,lit_r]
 ·simp [h,sd,lit_l]
def odd(i:Nat):Bool:=i % 2==1
theorem odd_succ(i:Nat):odd (i+1)=!odd i:=by
 unfold odd
 rcases Nat.mod_two_eq_zero_or_one i with h | h<;>simp [Nat.add_mod,h]
def rowsZ(ns:List Int):List Int:=0::(ns++[(ns.length:Int)+1])
theorem rowsZ_len(ns:List Int):(rowsZ ns).length=ns.length+2:=by simp [rowsZ]
def rowZ(ns:List Int)(i:Nat):Int:=(rowsZ ns).getD i 0
def stepB(ns:List Int)(i:Nat):Bw:=(min (rowZ ns i) (rowZ ns (i+1)),max (rowZ ns i) (rowZ ns (i+1)))
def onSide(b s:Bool)(i:Nat):Bool:=(b ^^ odd i)==s
def sideBows(b:Bool)(ns:List Int)(s:Bool)(m:Nat):List Bw:=((List.range m).filter (onSide b s)).map (stepB ns)
theorem sideBows_yes{b:Bool}{ns:List Int}{s:Bool}{i:Nat}(h:onSide b s i=true):sideBows b ns s (i+1)=sideBows b ns s i++[stepB ns i]:=by
 unfold sideBows
 rw [List.range_succ,List.filter_append,List.map_append]
 simp [h]
theorem sideBows_no{b:Bool}{ns:List Int}{s:Bool}{i:Nat}(h:onSide b s i=false):sideBows b ns s (i+1)=sideBows b ns s i:=by
 unfold sideBows
 rw [List.range_succ,List.filter_append,List.map_append]
 simp [h]
theorem onSide_self(b:Bool)(i:Nat):onSide b (b ^^ odd i) i=true:=by simp [onSide]
theorem onSide_other(b:Bool)(i:Nat):onSide b (!(b ^^ odd i)) i=false:=by cases h:(b ^^ odd i)<;>simp [onSide,h]
theorem sideBows_len(b:Bool)(ns:List Int)(s:Bool)(m:Nat):(sideBows b ns s m).length<=m:=by
 unfold sideBows
 rw [List.length_map]
 exact Nat.le_trans (List.length_filter_le _ _) (by rw [List.length_range];exact Nat.le_refl _)
theorem sideBows_sum(b:Bool)(ns:List Int):∀ m,(sideBows b ns false m).length+(sideBows b ns true m).length=m
 | 0=>rfl
 | m+1=>by
  have ih:=sideBows_sum b ns m
  cases h:(b ^^ odd m) with
  | false=>
   rw [sideBows_yes (s:=false) (by simp [onSide,h]),sideBows_no (s:=true) (by simp [onSide,h])]
   simp;omega
  | true=>
   rw [sideBows_no (s:=false) (by simp [onSide,h]),sideBows_yes (s:=true) (by simp [onSide,h])]
   simp;omega
structure Ord (ns:List Int):Prop where
 len:ns.length<=20
 perm:ns.Perm (rngZ 1 ns.length)
theorem Ord.mem{ns:List Int}(O:Ord ns){x:Int}:x∈ns<->1<=x/\x<=ns.length:=O.perm.mem_iff.trans mem_rng1
theorem Ord.rows_nodup{ns:List Int}(O:Ord ns):(rowsZ ns).Nodup:=by
 have nd:ns.Nodup:=O.perm.nodup_iff.mpr (rng1_nodup _)
 unfold rowsZ
 rw [List.nodup_cons,List.nodup_append]
 refine⟨fun h=>?_,nd,by simp,fun a ha b hb e=>?_⟩
 ·rcases List.mem_append.mp h with z | z
  ·have:=O.mem.mp z;omega
  ·have:(0:Int)=ns.length+1:=by simpa using z
   omega
 ·have:b=(ns.length:Int)+1:=by simpa using hb
  have:=O.mem.mp ha
  omega
theorem Ord.rows_mem{ns:List Int}(O:Ord ns){x:Int}(h:x∈rowsZ ns):0<=x/\x<=(ns.length:Int)+1:=by
 unfold rowsZ at h
 rcases List.mem_cons.mp h with z | z
 ·omega
 ·rcases List.mem_append.mp z with z | z
  ·have:=O.mem.mp z;omega
  ·have:x=(ns.length:Int)+1:=by simpa using z
   omega
theorem rowZ_get{ns:List Int}{i:Nat}(h:i<ns.length+2):(rowsZ ns)[i]? = some (rowZ ns i):=by
 unfold rowZ
 have:i<(rowsZ ns).length:=by rw [rowsZ_len];exact h
 simp [List.getD,this]
theorem Ord.row_inj{ns:List Int}(O:Ord ns){i j:Nat}(hi:i<ns.length+2)(hj:j<ns.length+2)(h:rowZ ns i=rowZ ns j):i=j:=by
 have h1:=List.getElem?_eq_some_iff.mp (rowZ_get hi)
 have h2:=List.getElem?_eq_some_iff.mp (rowZ_get hj)
 exact (List.getElem_inj O.rows_nodup (h₀:=h1.1) (h₁:=h2.1)).mp (h1.2.trans (h.trans h2.2.symm))
theorem Ord.row_in{ns:List Int}(O:Ord ns){i:Nat}(hi:i<ns.length+2):0<=rowZ ns i/\rowZ ns i<=(ns.length:Int)+1:=O.rows_mem (List.mem_of_getElem? (rowZ_get hi))
theorem rowZ_0(ns:List Int):rowZ ns 0=0:=rfl
theorem rowZ_last(ns:List Int):rowZ ns (ns.length+1)=(ns.length:Int)+1:=by simp [rowZ,rowsZ,List.getD]
theorem rowZ_mid{ns:List Int}{i:Nat}{x:Int}(h:(ns++[(ns.length:Int)+1])[i]? = some x):rowZ ns (i+1)=x:=by simp only [rowZ,rowsZ,List.getD,List.getElem?_cons_succ,h];rfl
theorem rowZ_ring{ns:List Int}{i:Nat}{x:Int}(h:ns[i]? = some x):rowZ ns (i+1)=x:=rowZ_mid (by rw [List.getElem?_append_left (List.getElem?_eq_some_iff.mp h).1];exact h)
theorem Ord.step_lt{ns:List Int}(O:Ord ns){i:Nat}(hi:i<=ns.length):(stepB ns i).1<(stepB ns i).2:=by
 have:rowZ ns i≠rowZ ns (i+1):=fun e=>by
  have:=O.row_inj (by omega) (by omega) e
  omega
 show min (rowZ ns i) (rowZ ns (i+1))<max (rowZ ns i) (rowZ ns (i+1))
 omega
theorem Ord.step_in{ns:List Int}(O:Ord ns){i:Nat}(hi:i<=ns.length):0<=(stepB ns i).1/\(stepB ns i).2<=(ns.length:Int)+1:=by
 have h1:=O.row_in (i:=i) (by omega)
 have h2:=O.row_in (i:=i+1) (by omega)
 show 0<=min (rowZ ns i) (rowZ ns (i+1))/\max (rowZ ns i) (rowZ ns (i+1))<=_
 omega
theorem side_mem{b:Bool}{ns:List Int}{s:Bool}{m:Nat}{p:Bw}(h:p∈sideBows b ns s m):∃ i,i<m/\onSide b s i=true/\p=stepB ns i:=by
 unfold sideBows at h
 obtain⟨i,hi,rfl⟩:=List.mem_map.mp h
 obtain⟨h1,h2⟩:=List.mem_filter.mp hi
 exact⟨i,List.mem_range.mp h1,h2,rfl⟩
theorem side_has{b:Bool}{ns:List Int}{s:Bool}{m i:Nat}(h:i<m)(hs:onSide b s i=true):stepB ns i∈sideBows b ns s m:=
 List.mem_map.mpr ⟨i,List.mem_filter.mpr ⟨List.mem_range.mpr h,hs⟩,rfl⟩
def hasR(x:Int)(p:Bw):Bool:=decide (x=p.1) || decide (x=p.2)
theorem Ord.has_iff{ns:List Int}(O:Ord ns){i j:Nat}(hi:i<ns.length+2)(hj:j<=ns.length):hasR (rowZ ns i) (stepB ns j)=decide (j=i\/j+1=i):=by
 have e:hasR (rowZ ns i) (stepB ns j)=decide (rowZ ns i=rowZ ns j\/rowZ ns i=rowZ ns (j+1)):=by
  show (decide (rowZ ns i=min (rowZ ns j) (rowZ ns (j+1))) || decide (rowZ ns i=max (rowZ ns j) (rowZ ns (j+1))))=_
  rw [<-Bool.decide_or]
  exact decide_eq_decide.mpr (by omega)
 rw [e]
 refine decide_eq_decide.mpr ⟨fun h=>?_,fun h=>?_⟩
 ·rcases h with h | h
  ·exact .inl (O.row_inj hi (by omega) h).symm
  ·exact .inr (O.row_inj hi (by omega) h).symm
 ·rcases h with rfl | rfl
  ·exact .inl rfl
  ·exact .inr rfl
theorem range_one{k:Nat}:∀ {m:Nat},k<m->(List.range m).filter (fun j=>decide (j=k))=[k]
 | m+1,h=>by
  rw [List.range_succ,List.filter_append]
  by_cases e:k=m
  ·subst e
   have:(List.range k).filter (fun j=>decide (j=k))=[]:=List.filter_eq_nil_iff.mpr fun x hx=>by have:=List.mem_range.mp hx;simp;omega
   simp [this]
  ·have hm:¬ m=k:=fun z=>e z.symm
   rw [range_one (m:=m) (by omega)]
   simp [hm]
theorem odd_ne{b s:Bool}{j k:Nat}(h1:onSide b s j=true)(h2:onSide b s k=true)(h:j=k+1):False:=by
 subst h
 simp only [onSide,odd_succ,beq_iff_eq] at h1 h2
 cases b<;>cases s<;>cases hk:odd k<;>simp [hk] at h1 h2
theorem Ord.only{ns:List Int}(O:Ord ns){b s:Bool}{i k:Nat}(hk:k<=ns.length)(hs:onSide b s k=true)(h:k=i\/k+1=i):(sideBows b ns s (ns.length+1)).filter (hasR (rowZ ns i))=[stepB ns k]:=by
 unfold sideBows
 rw [List.filter_map,List.filter_filter]
 have e:(List.range (ns.length+1)).filter (fun a=>(hasR (rowZ ns i)∘stepB ns) a&&onSide b s a)=(List.range (ns.length+1)).filter (fun j=>decide (j=k)):=by
  refine List.filter_congr fun j hj=>?_
  have hj:=List.mem_range.mp hj
  show (hasR (rowZ ns i) (stepB ns j)&&onSide b s j)=_
  rw [O.has_iff (by omega) (by omega)]
  by_cases e:j=k
  ·subst e;simp [hs,h]
  ·cases hsj:onSide b s j with
   | false=>simp [e]
   | true=>
    have:¬ (j=i\/j+1=i):=fun z=>by
     have:j=k+1\/k=j+1:=by omega
     rcases this with z | z
     ·exact odd_ne hsj hs z
     ·exact odd_ne hs hsj z
    simp [this,e]
 rw [e,range_one (by omega)]
 rfl
theorem step_sum(ns:List Int)(i:Nat):(stepB ns i).1+(stepB ns i).2=rowZ ns i+rowZ ns (i+1):=by
 show min (rowZ ns i) (rowZ ns (i+1))+max (rowZ ns i) (rowZ ns (i+1))=_
 omega
structure SideOf (b:Bool) (ns:List Int) (s:Bool) (L:List Bw):Prop where
 perm:L.Perm (sideBows b ns s (ns.length+1))
 asc:L.Pairwise leB
theorem SideOf.len{b:Bool}{ns:List Int}{s:Bool}{L:List Bw}(h:SideOf b ns s L)(O:Ord ns):L.length<=21:=by
 have h1:=h.perm.length_eq
 have h2:=sideBows_len b ns s (ns.length+1)
 have:=O.len
 omega
theorem SideOf.lt{b:Bool}{ns:List Int}{s:Bool}{L:List Bw}(h:SideOf b ns s L)(O:Ord ns):∀ p∈L,p.1<p.2:=fun p hp=>by
 obtain⟨i,hi,_,rfl⟩:=side_mem (h.perm.mem_iff.mp hp)
 exact O.step_lt (by omega)
theorem two_sorted{x y:Int}{ms:List Int}(h:ms.Perm [x,y])(hs:ms.Pairwise (·<=·)):ms=[min x y,max x y]:=by
 have:(if x<=y then [x,y] else [y,x]).Perm [x,y]:=by
  by_cases e:x<=y
  ·rw [if_pos e]
  ·rw [if_neg e];exact List.Perm.swap x y []
 have e2:[min x y,max x y]=(if x<=y then [x,y] else [y,x]):=by
  by_cases e:x<=y
  ·rw [if_pos e];simp [Int.min_def,Int.max_def,e]
  ·rw [if_neg e]
   have:y<=x:=by omega
   simp [Int.min_def,Int.max_def,e]
 rw [e2]
 refine List.Perm.eq_of_pairwise (le:=(·<=·)) (fun a b _ _ h h'=>by omega) hs ?_ (h.trans this.symm)
 by_cases e:x<=y
 ·rw [if_pos e];simp [e]
 ·rw [if_neg e];simp;omega
theorem cut_two{ns:List Int}{i:Nat}(h:i<=ns.length):cutV ((rowsZ ns).map V.int) (some (0+(i:Int))) (some (0+(i:Int)+2))=[rowZ ns i,rowZ ns (i+1)].map V.int:=by
 have e1:HT.sIx ((rowsZ ns).map V.int).length 0 (some (0+(i:Int)))=i:=by
  show (if (0+(i:Int))<0 then (0+(i:Int)+(((rowsZ ns).map V.int).length:Int)).toNat else min (0+(i:Int)).toNat ((rowsZ ns).map V.int).length)=i
  rw [if_neg (by omega),List.length_map,rowsZ_len];omega
 have e2:HT.sIx ((rowsZ ns).map V.int).length ((rowsZ ns).map V.int).length (some (0+(i:Int)+2))=i+2:=by
  show (if (0+(i:Int)+2)<0 then (0+(i:Int)+2+(((rowsZ ns).map V.int).length:Int)).toNat else min (0+(i:Int)+2).toNat ((rowsZ ns).map V.int).length)=i+2
  rw [if_neg (by omega),List.length_map,rowsZ_len];omega
 unfold cutV
 rw [e1,e2,show i+2 - i=2 by omega,<-List.map_drop,<-List.map_take]
 congr 1
 have h1:=List.getElem?_eq_some_iff.mp (rowZ_get (ns:=ns) (i:=i) (by omega))
 have h2:=List.getElem?_eq_some_iff.mp (rowZ_get (ns:=ns) (i:=i+1) (by omega))
 rw [List.drop_eq_getElem_cons h1.1,List.drop_eq_getElem_cons h2.1,h1.2,h2.2]
 rfl
def MazeAt(H:Hp)(m o:Addr)(b:Bool)(ns:List Int):Prop:=H m=some (.tup [.str (sd b),.ref o])/\H o=some (.tup (ns.map V.int))
theorem MazeAt.same{H H':Hp}{m o:Addr}{b:Bool}{ns:List Int}(h:MazeAt H m o b ns)(s:Same H H'):MazeAt H' m o b ns:=⟨s _ _ h.1,s _ _ h.2⟩
def spOther:Sp:=fun vs H Q _=>∃ b,vs=[.str (sd b)]/\Q (.str (sd !b)) H
def spSideOf:Sp:=fun vs H Q _=>∃ m o b ns,∃ k:Nat,vs=[.ref m,.int k]/\MazeAt H m o b ns/\Q (.str (sd (b ^^ odd k))) H
def spRows:Sp:=fun vs H Q _=>∃ m o b ns,vs=[.ref m]/\MazeAt H m o b ns/\ns.length<=40/\∀ l H',H l=none->Same H H'->H' l=some (.lst ((rowsZ ns).map V.int))->Q (.ref l) H'
structure BowsOf (H:Hp) (t l r:Addr) (b:Bool) (ns:List Int) (L R:List Bw):Prop where
 tup:H t=some (.tup [.ref l,.ref r])
 left:BowsAt H l L
 right:BowsAt H r R
 isL:SideOf b ns false L
 isR:SideOf b ns true R
 ne:l≠r
def spBowsOf:Sp:=fun vs H Q _=>∃ m o b ns,vs=[.ref m]/\MazeAt H m o b ns/\Ord ns/\∀ t l r L R H',H t=none->H l=none->H r=none->Same H H'->BowsOf H' t l r b ns L R->Q (.ref t) H'
end Rm
namespace Rm
open PySem L2
theorem bows_push{H:Hp}{l t:Addr}{as:List Addr}{ps:List Bw}{p:Bw}(h1:H l=some (.lst (as.map V.ref)))(h2:Paired (tupAt H) as ps)(ht:tupAt H t p):BowsAt (upd H l (.lst (as.map V.ref++[.ref t]))) l (ps++[p]):=by
 have st:∀ {a:Addr} {p:Bw},tupAt H a p->tupAt (upd H l (.lst (as.map V.ref++[.ref t]))) a p:=fun {a p} h=>by
  have:a≠l:=fun e=>by subst e;unfold tupAt at h;rw [h1] at h;cases h
  unfold tupAt;rw [upd_ne this];exact h
 refine⟨as++[t],by rw [upd_same,List.map_append];rfl,?_⟩
 clear h1
 generalize upd H l (.lst (as.map V.ref++[.ref t]))=H' at st ⊢
 induction h2 with
 | nil=>exact .cons (st ht) .nil
 | cons a b ih=>exact .cons (st a) ih
theorem pair_snoc{α β:Type}{F:α->β->Prop}{l:List α}{m:List β}{a:α}{b:β}(h:Paired F l m)(hb:F a b):Paired F (l++[a]) (m++[b]):=by
 induction h with
 | nil=>exact .cons hb .nil
 | cons x y ih=>exact .cons x ih
end Rm
namespace Rm
open PySem L2
abbrev Oe:=Int×Int
def chain:Bool->List Int->Bool->List Bw
 | s,a::b::rest,t=>(if (!s)=t then [(min a b,max a b)] else [])++chain (!s) (b::rest) t
 | _,_,_=>[]
def lastS(s:Bool)(R:List Int):Bool:=s ^^ odd R.length
def hdZ(R:List Int):Int:=R.head?.getD 0
def ltZ(R:List Int):Int:=R.getLast?.getD 0
theorem lastS_cons(s:Bool)(a:Int)(R:List Int):lastS s (a::R)=lastS (!s) R:=by
 unfold lastS
 rw [List.length_cons,odd_succ]
 cases s<;>cases odd R.length<;>rfl
theorem lastS_snoc(s:Bool)(R:List Int)(r:Int):lastS s (R++[r])=!lastS s R:=by
 unfold lastS
 rw [List.length_append,List.length_singleton,odd_succ]
 cases s<;>cases odd R.length<;>rfl
theorem ltZ_snoc(R:List Int)(r:Int):ltZ (R++[r])=r:=by simp [ltZ]
theorem ltZ_cons(a b:Int)(R:List Int):ltZ (a::b::R)=ltZ (b::R):=by simp [ltZ]
theorem hdZ_rev(R:List Int):hdZ R.reverse=ltZ R:=by simp [hdZ,ltZ]
theorem ltZ_rev(R:List Int):ltZ R.reverse=hdZ R:=by simp [hdZ,ltZ]
theorem hdZ_app{R S:List Int}(h:R≠[]):hdZ (R++S)=hdZ R:=by cases R with | nil=>exact absurd rfl h | cons a R=>rfl
theorem ltZ_app{R S:List Int}(h:S≠[]):ltZ (R++S)=ltZ S:=by
 unfold ltZ
 rw [List.getLast?_append]
 cases e:S.getLast? with
 | none=>exact absurd (List.getLast?_eq_none_iff.mp e) h
 | some x=>rfl
theorem chain_join:∀ {R:List Int} (s:Bool) (r:Int) (S:List Int) (t:Bool),R≠[]->chain s (R++r::S) t=chain s R t++(if lastS s R=t then [(min (ltZ R) r,max (ltZ R) r)] else [])++chain (lastS s R) (r::S) t
 | [a],s,r,S,t,_=>by
  show (if (!s)=t then [(min a r,max a r)] else [])++chain (!s) (r::S) t=[]++_++_
  have e:lastS s [a]=!s:=by cases s<;>rfl
  rw [e];rfl
 | a::b::R,s,r,S,t,_=>by
  show (if (!s)=t then [(min a b,max a b)] else [])++chain (!s) ((b::R)++r::S) t=((if (!s)=t then [(min a b,max a b)] else [])++chain (!s) (b::R) t)++_++_
  rw [chain_join (!s) r S t (by simp),lastS_cons s a (b::R),ltZ_cons]
  simp only [List.append_assoc]
theorem chain_snoc{R:List Int}(s:Bool)(r:Int)(t:Bool)(h:R≠[]):chain s (R++[r]) t=chain s R t++(if lastS s R=t then [(min (ltZ R) r,max (ltZ R) r)] else []):=by
 rw [chain_join s r [] t h]
 show _++[]=_
 rw [List.append_nil]
theorem chain_rev:∀ (R:List Int) (s t:Bool),(chain (lastS s R) R.reverse t).Perm (chain s R t)
 | [],_,_=>.refl _
 | [a],s,t=>.refl _
 | a::b::R,s,t=>by
  have ih:=chain_rev (b::R) (!s) t
  rw [List.reverse_cons,lastS_cons,chain_snoc _ _ _ (by simp)]
  have e:lastS (lastS (!s) (b::R)) (b::R).reverse=!s:=by
   unfold lastS
   rw [List.length_reverse]
   cases s<;>cases odd (b::R).length<;>rfl
  rw [e,ltZ_rev]
  show (chain (lastS (!s) (b::R)) (b::R).reverse t++(if (!s)=t then [(min b a,max b a)] else [])).Perm ((if (!s)=t then [(min a b,max a b)] else [])++chain (!s) (b::R) t)
  rw [Int.min_comm b a,Int.max_comm b a]
  exact List.perm_append_comm.trans (ih.append_left _)
structure Pc where
 lab:Int
 rows:List Int
 s:Bool
 main:Bool
def Pc.fst(p:Pc):Oe×Bool:=((hdZ p.rows,p.lab),p.s)
def Pc.lst(p:Pc):Oe×Bool:=((ltZ p.rows,p.lab),lastS p.s p.rows)
def Pc.more(p:Pc):List (Oe×Bool):=if p.main then [] else [p.fst]
def Pc.ends(p:Pc):List (Oe×Bool):=p.lst::p.more
def Pc.rev(p:Pc):Pc:={ p with rows:=p.rows.reverse,s:=lastS p.s p.rows }
def Pc.bows(t:Bool)(p:Pc):List Bw:=chain p.s p.rows t
theorem rev_lst(p:Pc):p.rev.lst=p.fst:=by
 show ((ltZ p.rows.reverse,p.lab),lastS (lastS p.s p.rows) p.rows.reverse)=((hdZ p.rows,p.lab),p.s)
 rw [ltZ_rev]
 congr 1
 unfold lastS
 rw [List.length_reverse]
 cases p.s<;>cases odd p.rows.length<;>rfl
theorem rev_fst(p:Pc):p.rev.fst=p.lst:=by
 show ((hdZ p.rows.reverse,p.lab),lastS p.s p.rows)=_
 rw [hdZ_rev];rfl
def endsOf(st:Bool->List Oe):List (Oe×Bool):=(st false).map (·,false)++(st true).map (·,true)
theorem endsOf_pop{st:Bool->List Oe}{t:Bool}{st':List Oe}{e:Oe}(h:st t=st'++[e]):(endsOf st).Perm ((e,t)::endsOf fun u=>if u=t then st' else st u):=by
 unfold endsOf
 cases t with
 | false=>
  simp only [h,if_true,Bool.true_eq_false,if_false,List.map_append,List.map_cons,List.map_nil,List.append_assoc,List.cons_append,List.nil_append]
  exact List.perm_middle
 | true=>
  simp only [h,if_true,Bool.false_eq_true,if_false,List.map_append,List.map_cons,List.map_nil]
  rw [<-List.append_assoc]
  exact List.perm_append_comm
theorem endsOf_push{st:Bool->List Oe}{t:Bool}{e:Oe}:(endsOf fun u=>if u=t then st u++[e] else st u).Perm ((e,t)::endsOf st):=by
 have h:=endsOf_pop (st:=fun u=>if u=t then st u++[e] else st u) (t:=t) (st':=st t) (e:=e) (by simp)
 refine h.trans ?_
 have:(fun u=>if u=t then st t else if u=t then st u++[e] else st u)=st:=by
  funext u
  by_cases z:u=t
  ·simp [z]
  ·simp [z]
 rw [this]
structure Stk2 (st:List Oe) (f:List Bw) (r:Nat):Prop where
 inc:st.Pairwise fun a b=>a.1<b.1
 low:∀ e∈st,0<=e.1/\e.1<r
 bow:∀ p∈f,0<=p.1/\p.1<p.2/\p.2<r
 nc:∀ p∈f,∀ q∈f,crossZ p q=false
 un:∀ p∈f,∀ e∈st,¬ (p.1<e.1/\e.1<p.2)
theorem Stk2.keep{st:List Oe}{f:List Bw}{r:Nat}(S:Stk2 st f r):Stk2 st f (r+1):=
 ⟨S.inc,fun e h=>by have:=S.low e h;omega,fun p h=>by have:=S.bow p h;omega,S.nc,S.un⟩
theorem Stk2.push{st:List Oe}{f:List Bw}{r:Nat}(S:Stk2 st f r)(l:Int):Stk2 (st++[((r:Int),l)]) f (r+1):=by
 refine⟨List.pairwise_append.mpr ⟨S.inc,by simp,fun a ha b hb=>?_⟩,fun e h=>?_,fun p h=>by have:=S.bow p h;omega,S.nc,fun p hp e h=>?_⟩
 ·have e:b=((r:Int),l):=by simpa using hb
  subst e
  exact (S.low a ha).2
 ·rcases List.mem_append.mp h with z | z
  ·have:=S.low e z;omega
  ·have e':e=((r:Int),l):=by simpa using z
   subst e';simp only;omega
 ·rcases List.mem_append.mp h with z | z
  ·exact S.un p hp e z
  ·have e':e=((r:Int),l):=by simpa using z
   subst e'
   have:=S.bow p hp
   simp only;omega
theorem Stk2.close{st:List Oe}{f:List Bw}{r:Nat}{o l:Int}(S:Stk2 (st++[(o,l)]) f r):Stk2 st (f++[(o,(r:Int))]) (r+1):=by
 have ho:=S.low (o,l) (by simp)
 simp only at ho
 have low:∀ e∈st,e.1<o:=fun e he=>(List.pairwise_append.mp S.inc).2.2 e he (o,l) (by simp)
 have cr:∀ p q:Bw,(¬ (p.1<q.1/\q.1<p.2/\p.2<q.2))->crossZ p q=false:=fun p q h=>by
  unfold crossZ
  by_cases a:p.1<q.1
  ·by_cases b:q.1<p.2
   ·have c:¬ p.2<q.2:=fun c=>h ⟨a,b,c⟩
    simp [c]
   ·simp [b]
  ·simp [a]
 refine⟨(List.pairwise_append.mp S.inc).1,fun e h=>by have:=S.low e (List.mem_append_left _ h);omega,fun p h=>?_,fun p hp q hq=>?_,fun p hp e h=>?_⟩
 ·rcases List.mem_append.mp h with z | z
  ·have:=S.bow p z;omega
  ·have e':p=(o,(r:Int)):=by simpa using z
   subst e';simp only;omega
 ·rcases List.mem_append.mp hp with z | z
  ·rcases List.mem_append.mp hq with y | y
   ·exact S.nc p z q y
   ·have e':q=(o,(r:Int)):=by simpa using y
    subst e'
    have h1:=S.un p z (o,l) (by simp)
    exact cr _ _ fun h=>h1 ⟨h.1,h.2.1⟩
  ·have e':p=(o,(r:Int)):=by simpa using z
   subst e'
   rcases List.mem_append.mp hq with y | y
   ·have h1:=S.bow q y
    exact cr _ _ fun h=>by simp only at h;omega
   ·have e':q=(o,(r:Int)):=by simpa using y
    subst e'
    exact cr _ _ fun h=>by simp only at h;omega
 ·have h1:=low e h
  rcases List.mem_append.mp hp with z | z
  ·exact S.un p z e (List.mem_append_left _ h)
  ·have e':p=(o,(r:Int)):=by simpa using z
   subst e'
   simp only;omega
theorem Stk2.map{st:List Oe}{f:List Bw}{r:Nat}(S:Stk2 st f r)(g:Int->Int):Stk2 (st.map fun e=>(e.1,g e.2)) f r:=by
 refine⟨?_,fun e h=>?_,S.bow,S.nc,fun p hp e h=>?_⟩
 ·rw [List.pairwise_map];exact S.inc
 ·obtain⟨x,hx,rfl⟩:=List.mem_map.mp h;exact S.low x hx
 ·obtain⟨x,hx,rfl⟩:=List.mem_map.mp h;exact S.un p hp x hx
structure Gr (b:Bool) (st:Bool->List Oe) (f:Bool->List Bw) (r:Nat) (is:List Pc):Prop where
 ne:∀ p∈is,p.rows≠[]
 rows:(is.flatMap Pc.rows).Perm (rngZ 0 r)
 labs:(is.map Pc.lab).Nodup
 lr:∀ p∈is,p.lab<r
 one:is.countP Pc.main=1
 hd:∀ p∈is,p.main=true->p.rows.head? = some 0/\p.s=!b
 ends:(endsOf st).Perm (is.flatMap Pc.ends)
 bows:∀ t,(f t).Perm (is.flatMap (Pc.bows t))
 stk:∀ t,Stk2 (st t) (f t) r
section
variable {b:Bool} {st:Bool->List Oe} {f:Bool->List Bw} {r:Nat} {is js:List Pc} {p q:Pc}
theorem Gr.perm(G:Gr b st f r is)(h:is.Perm js):Gr b st f r js:=
 ⟨fun p hp=>G.ne p (h.mem_iff.mpr hp),(h.flatMap_right _).symm.trans G.rows,(h.map _).nodup_iff.mp G.labs,fun p hp=>G.lr p (h.mem_iff.mpr hp),(h.countP_eq _).symm.trans G.one,fun p hp=>G.hd p (h.mem_iff.mpr hp),
  G.ends.trans (h.flatMap_right _),fun t=>(G.bows t).trans (h.flatMap_right _),G.stk⟩
theorem Gr.flip(G:Gr b st f r (p::is))(h:p.main=false):Gr b st f r (p.rev::is):=by
 have more:p.more=[p.fst]:=by unfold Pc.more;rw [h];rfl
 have more':p.rev.more=[p.lst]:=by
  unfold Pc.more
  rw [show p.rev.main=false from h,rev_fst];rfl
 refine⟨fun q hq=>?_,?_,G.labs,fun q hq=>?_,?_,fun q hq hm=>?_,?_,fun t=>?_,G.stk⟩
 ·rcases List.mem_cons.mp hq with z | z
  ·subst z;exact fun e=>G.ne p List.mem_cons_self (List.reverse_eq_nil_iff.mp e)
  ·exact G.ne q (List.mem_cons_of_mem _ z)
 ·exact ((List.reverse_perm p.rows).append_right _).trans G.rows
 ·rcases List.mem_cons.mp hq with z | z
  ·subst z;exact G.lr p List.mem_cons_self
  ·exact G.lr q (List.mem_cons_of_mem _ z)
 ·have:=G.one
  rw [List.countP_cons] at this ⊢
  exact this
 ·rcases List.mem_cons.mp hq with z | z
  ·subst z
   rw [show p.rev.main=false from h] at hm;cases hm
  ·exact G.hd q (List.mem_cons_of_mem _ z) hm
 ·refine G.ends.trans ?_
  rw [List.flatMap_cons,List.flatMap_cons]
  refine List.Perm.append_right _ ?_
  unfold Pc.ends
  rw [more,more',rev_lst]
  exact List.Perm.swap _ _ _
 ·refine (G.bows t).trans ?_
  rw [List.flatMap_cons,List.flatMap_cons]
  exact (chain_rev p.rows p.s t).symm.append_right _
theorem Gr.pick(G:Gr b st f r is){e:Oe×Bool}(h:e∈endsOf st):∃ p js,p.lst=e/\Gr b st f r (p::js)/\∀ q∈js,q∈is:=by
 obtain⟨p,hp,he⟩:=List.mem_flatMap.mp (G.ends.mem_iff.mp h)
 obtain⟨A,B,rfl⟩:=List.append_of_mem hp
 have G1:=G.perm List.perm_middle
 have sub:∀ q∈A++B,q∈A++p::B:=fun q hq=>by
  rcases List.mem_append.mp hq with z | z
  ·exact List.mem_append_left _ z
  ·exact List.mem_append_right _ (List.mem_cons_of_mem _ z)
 rcases List.mem_cons.mp he with z | z
 ·exact⟨p,A++B,z.symm,G1,sub⟩
 ·unfold Pc.more at z
  cases hm:p.main with
  | true=>rw [hm] at z;cases z
  | false=>
   rw [hm] at z
   have e':e=p.fst:=by simpa using z
   exact⟨p.rev,A++B,by rw [rev_lst,e'],G1.flip hm,sub⟩
theorem rng_succ(r:Nat):rngZ 0 (r+1)=rngZ 0 r++[(r:Int)]:=by
 unfold rngZ
 rw [List.range_succ,List.map_append]
 simp
theorem Gr.opA(G:Gr b st f r is):Gr b (fun u=>st u++[((r:Int),(r:Int))]) f (r+1) (⟨r,[(r:Int)],false,false⟩::is):=by
 refine⟨fun q hq=>?_,?_,?_,fun q hq=>?_,?_,fun q hq hm=>?_,?_,fun t=>?_,fun t=>(G.stk t).push _⟩
 ·rcases List.mem_cons.mp hq with z | z
  ·subst z;simp
  ·exact G.ne q z
 ·rw [rng_succ]
  exact (G.rows.cons (r:Int)).trans (List.perm_append_comm (l₁:=[(r:Int)]) (l₂:=rngZ 0 r))
 ·rw [List.map_cons,List.nodup_cons]
  refine⟨fun z=>?_,G.labs⟩
  obtain⟨q,hq,e⟩:=List.mem_map.mp z
  have:=G.lr q hq
  simp only at e;omega
 ·rcases List.mem_cons.mp hq with z | z
  ·subst z;simp only;omega
  ·have:=G.lr q z;omega
 ·rw [List.countP_cons,G.one];rfl
 ·rcases List.mem_cons.mp hq with z | z
  ·subst z;cases hm
  ·exact G.hd q z hm
 ·have h1:=endsOf_push (st:=st) (t:=false) (e:=((r:Int),(r:Int)))
  have h2:=endsOf_push (st:=fun u=>if u=false then st u++[((r:Int),(r:Int))] else st u) (t:=true) (e:=((r:Int),(r:Int)))
  have e:(fun u=>if u=true then (if u=false then st u++[((r:Int),(r:Int))] else st u)++[((r:Int),(r:Int))] else if u=false then st u++[((r:Int),(r:Int))] else st u)=fun u=>st u++[((r:Int),(r:Int))]:=by
   funext u;cases u<;>rfl
  rw [e] at h2
  refine h2.trans ((h1.cons _).trans ?_)
  rw [List.flatMap_cons]
  exact ((G.ends.cons _).cons _)
 ·refine (G.bows t).trans ?_
  rw [List.flatMap_cons]
  exact .refl _
theorem Gr.ext{t:Bool}{st':List Oe}{o l:Int}(G:Gr b st f r (p::is))(hl:p.lst=((o,l),t))(hs:st t=st'++[(o,l)]):
  Gr b (fun u=>if u=t then st' else st u++[((r:Int),l)]) (fun u=>if u=t then f u++[(o,(r:Int))] else f u) (r+1) ({ p with rows:=p.rows++[(r:Int)] }::is):=by
 have pne:=G.ne p List.mem_cons_self
 have e1:ltZ p.rows=o:=congrArg (fun x=>x.1.1) hl
 have e2:p.lab=l:=congrArg (fun x=>x.1.2) hl
 have e3:lastS p.s p.rows=t:=congrArg (fun x=>x.2) hl
 have low:=(G.stk t).low (o,l) (by rw [hs];simp)
 simp only at low
 have lst':Pc.lst { p with rows:=p.rows++[(r:Int)] }=(((r:Int),l),!t):=by
  show ((ltZ (p.rows++[(r:Int)]),p.lab),lastS p.s (p.rows++[(r:Int)]))=_
  rw [ltZ_snoc,lastS_snoc,e2,e3]
 have more':Pc.more { p with rows:=p.rows++[(r:Int)] }=p.more:=by
  unfold Pc.more Pc.fst
  rw [hdZ_app pne]
 refine⟨fun q hq=>?_,?_,G.labs,fun q hq=>?_,?_,fun q hq hm=>?_,?_,fun u=>?_,fun u=>?_⟩
 ·rcases List.mem_cons.mp hq with z | z
  ·subst z;simp
  ·exact G.ne q (List.mem_cons_of_mem _ z)
 ·have h1:=G.rows
  rw [List.flatMap_cons] at h1 ⊢
  rw [rng_succ]
  show ((p.rows++[(r:Int)])++is.flatMap Pc.rows).Perm _
  rw [List.append_assoc]
  exact (List.perm_middle (l₁:=p.rows) (a:=(r:Int)) (l₂:=is.flatMap Pc.rows)).trans ((h1.cons _).trans (List.perm_append_comm (l₁:=[(r:Int)])))
 ·rcases List.mem_cons.mp hq with z | z
  ·subst z
   have:=G.lr p List.mem_cons_self
   simp only;omega
  ·have:=G.lr q (List.mem_cons_of_mem _ z);omega
 ·have:=G.one
  rw [List.countP_cons] at this ⊢
  exact this
 ·rcases List.mem_cons.mp hq with z | z
  ·subst z
   obtain⟨a,c⟩:=G.hd p List.mem_cons_self hm
   refine⟨?_,c⟩
   show (p.rows++[(r:Int)]).head? = _
   rw [List.head?_append,a];rfl
  ·exact G.hd q (List.mem_cons_of_mem _ z) hm
 ·have h1:=(endsOf_pop hs).symm.trans G.ends
  rw [List.flatMap_cons] at h1 ⊢
  have h2:(endsOf fun u=>if u=t then st' else st u).Perm (p.more++is.flatMap Pc.ends):=by
   have e:p.ends++is.flatMap Pc.ends=((o,l),t)::(p.more++is.flatMap Pc.ends):=by
    unfold Pc.ends;rw [hl];rfl
   rw [e] at h1
   exact h1.cons_inv
  have e:(fun u=>if u=t then st' else st u++[((r:Int),l)])=fun u=>if u=(!t) then (if u=t then st' else st u)++[((r:Int),l)] else (if u=t then st' else st u):=by
   funext u;cases u<;>cases t<;>rfl
  rw [e]
  refine endsOf_push.trans ((h2.cons _).trans ?_)
  have e4:Pc.ends { p with rows:=p.rows++[(r:Int)] }=(((r:Int),l),!t)::p.more:=by
   unfold Pc.ends;rw [lst',more']
  rw [e4]
  exact .refl _
 ·have h1:=G.bows u
  rw [List.flatMap_cons] at h1 ⊢
  have e4:Pc.bows u { p with rows:=p.rows++[(r:Int)] }=p.bows u++if u=t then [(o,(r:Int))] else []:=by
   show chain p.s (p.rows++[(r:Int)]) u=chain p.s p.rows u++_
   rw [chain_snoc _ _ _ pne,e1,e3]
   have m1:min o (r:Int)=o:=by omega
   have m2:max o (r:Int)=(r:Int):=by omega
   rw [m1,m2]
   congr 1
   cases t<;>cases u<;>rfl
  rw [e4]
  by_cases z:u=t
  ·rw [if_pos z,if_pos z,List.append_assoc]
   exact (h1.append_right _).trans (by rw [List.append_assoc];exact List.Perm.append_left _ List.perm_append_comm)
  ·rw [if_neg z,if_neg z,List.append_nil];exact h1
 ·by_cases z:u=t
  ·subst z
   simp only [if_true]
   have:=G.stk u
   rw [hs] at this
   exact this.close
  ·simp only [z,if_false]
   exact (G.stk u).push l
theorem Gr.pick2{o1 l1 o2 l2:Int}{n' f':List Oe}(G:Gr b st f r is)(h1:st false=n'++[(o1,l1)])(h2:st true=f'++[(o2,l2)])(hne:l1≠l2):∃ p q js,p.lst=((o1,l1),false)/\q.lst=((o2,l2),true)/\Gr b st f r (p::q::js):=by
 obtain⟨p,js,hp,G1,_⟩:=G.pick (e:=((o1,l1),false)) (by unfold endsOf;rw [h1];simp)
 have hm:((o2,l2),true)∈endsOf st:=by unfold endsOf;rw [h2];simp
 obtain⟨q,hq,he⟩:=List.mem_flatMap.mp (G1.ends.mem_iff.mp hm)
 have lab:∀ (x:Pc) e,e∈x.ends->e.1.2=x.lab:=fun x e h=>by
  rcases List.mem_cons.mp h with z | z
  ·subst z;rfl
  ·unfold Pc.more at z
   cases hm:x.main with
   | true=>rw [hm] at z;cases z
   | false=>
    rw [hm] at z
    have e':e=x.fst:=by simpa using z
    subst e';rfl
 have pl:p.lab=l1:=congrArg (fun x=>x.1.2) hp
 have ql:=lab q _ he
 rcases List.mem_cons.mp hq with z | z
 ·subst z
  simp only at ql
  exact absurd (pl.symm.trans ql.symm) hne
 ·obtain⟨A,B,rfl⟩:=List.append_of_mem z
  have G2:Gr b st f r (q::p::(A++B)):=G1.perm ((List.perm_middle.cons p).trans (List.Perm.swap _ _ _))
  rcases List.mem_cons.mp he with y | y
  ·exact⟨p,q,A++B,hp,y.symm,G2.perm (List.Perm.swap _ _ _)⟩
  ·unfold Pc.more at y
   cases hm:q.main with
   | true=>rw [hm] at y;cases y
   | false=>
    rw [hm] at y
    have e':((o2,l2),true)=q.fst:=by simpa using y
    exact⟨p,q.rev,A++B,hp,by rw [rev_lst,<-e'],(G2.flip hm).perm (List.Perm.swap _ _ _)⟩
def relab(x y:Int)(e:Oe):Oe:=(e.1,if e.2=x then y else e.2)
theorem Gr.join0{ta:Bool}{o:Bool->Int}{la lb l1 l2:Int}{st':Bool->List Oe}(G:Gr b st f r (p::q::is))(hp:p.lst=((o ta,la),ta))(hq:q.lst=((o (!ta),lb),!ta))(hs:∀ u,st u=st' u++[(o u,if u=ta then la else lb)])(hm:q.main=false)(hlab:(l1=la/\l2=lb)\/(l1=lb/\l2=la)):
  Gr b (fun u=>(st' u).map (relab l2 l1)) (fun u=>f u++[(o u,(r:Int))]) (r+1) (⟨l1,p.rows++(r:Int)::q.rows.reverse,p.s,p.main⟩::is):=by
 have pne:=G.ne p List.mem_cons_self
 have qne:=G.ne q (List.mem_cons_of_mem _ List.mem_cons_self)
 have qrne:q.rows.reverse≠[]:=fun e=>qne (List.reverse_eq_nil_iff.mp e)
 have p1:ltZ p.rows=o ta:=congrArg (fun x=>x.1.1) hp
 have p2:p.lab=la:=congrArg (fun x=>x.1.2) hp
 have p3:lastS p.s p.rows=ta:=congrArg (fun x=>x.2) hp
 have q1:ltZ q.rows=o (!ta):=congrArg (fun x=>x.1.1) hq
 have q2:q.lab=lb:=congrArg (fun x=>x.1.2) hq
 have q3:lastS q.s q.rows=!ta:=congrArg (fun x=>x.2) hq
 have low:∀ u,0<=o u/\o u<r:=fun u=>(G.stk u).low (o u,if u=ta then la else lb) (by rw [hs u];simp)
 have nd:=G.labs
 rw [List.map_cons,List.map_cons,List.nodup_cons,List.nodup_cons,p2,q2] at nd
 obtain⟨n1,n2,n3⟩:=nd
 have nab:la≠lb:=fun e=>n1 (by rw [e];exact List.mem_cons_self)
 have nla:∀ x∈is,x.lab≠la:=fun x hx e=>n1 (List.mem_cons_of_mem _ (List.mem_map.mpr ⟨x,hx,e⟩))
 have nlb:∀ x∈is,x.lab≠lb:=fun x hx e=>n2 (List.mem_map.mpr ⟨x,hx,e⟩)
 have n1':∀ x∈is,x.lab≠l1:=fun x hx=>by rcases hlab with ⟨e,_⟩ | ⟨e,_⟩<;>rw [e];exact nla x hx;exact nlb x hx
 have n2':∀ x∈is,x.lab≠l2:=fun x hx=>by rcases hlab with ⟨_,e⟩ | ⟨_,e⟩<;>rw [e];exact nlb x hx;exact nla x hx
 have rla:(if la=l2 then l1 else la)=l1:=by
  rcases hlab with ⟨e,e'⟩ | ⟨e,e'⟩
  ·rw [e',if_neg nab,e]
  ·rw [e',if_pos rfl]
 have rlb:(if lb=l2 then l1 else lb)=l1:=by
  rcases hlab with ⟨e,e'⟩ | ⟨e,e'⟩
  ·rw [e',if_pos rfl]
  ·rw [e',if_neg nab.symm,e]
 refine⟨fun x hx=>?_,?_,?_,fun x hx=>?_,?_,fun x hx hmx=>?_,?_,fun u=>?_,fun u=>?_⟩
 ·rcases List.mem_cons.mp hx with z | z
  ·subst z;simp
  ·exact G.ne x (List.mem_cons_of_mem _ (List.mem_cons_of_mem _ z))
 ·have h1:=G.rows
  rw [List.flatMap_cons,List.flatMap_cons] at h1
  rw [List.flatMap_cons,rng_succ]
  show ((p.rows++(r:Int)::q.rows.reverse)++is.flatMap Pc.rows).Perm _
  rw [List.append_assoc,List.cons_append]
  refine List.perm_middle.trans (List.Perm.trans ?_ (List.perm_append_comm (l₁:=[(r:Int)])))
  refine List.Perm.cons _ (List.Perm.trans ?_ h1)
  exact List.Perm.append_left _ ((List.reverse_perm q.rows).append_right _)
 ·rw [List.map_cons,List.nodup_cons]
  refine⟨fun z=>?_,n3⟩
  obtain⟨x,hx,e⟩:=List.mem_map.mp z
  exact n1' x hx e
 ·rcases List.mem_cons.mp hx with z | z
  ·subst z
   have h1:=G.lr p List.mem_cons_self
   have h2:=G.lr q (List.mem_cons_of_mem _ List.mem_cons_self)
   simp only
   rcases hlab with ⟨e,_⟩ | ⟨e,_⟩<;>rw [e]<;>omega
  ·have:=G.lr x (List.mem_cons_of_mem _ (List.mem_cons_of_mem _ z));omega
 ·have:=G.one
  rw [List.countP_cons,List.countP_cons,hm] at this
  rw [List.countP_cons]
  simpa using this
 ·rcases List.mem_cons.mp hx with z | z
  ·subst z
   obtain⟨a,c⟩:=G.hd p List.mem_cons_self hmx
   refine⟨?_,c⟩
   show (p.rows++(r:Int)::q.rows.reverse).head? = _
   rw [List.head?_append,a];rfl
  ·exact G.hd x (List.mem_cons_of_mem _ (List.mem_cons_of_mem _ z)) hmx
 ·have h0:(endsOf st).Perm (((o ta,la),ta)::((o (!ta),lb),!ta)::endsOf st'):=by
   have e1:(endsOf st).Perm _:=endsOf_pop (t:=ta) (hs ta)
   refine e1.trans ?_
   rw [if_pos rfl]
   refine List.Perm.cons _ ?_
   have e2:=endsOf_pop (st:=fun u=>if u=ta then st' ta else st u) (t:=!ta) (st':=st' (!ta)) (e:=(o (!ta),lb)) (by
    have z:¬ (!ta)=ta:=by cases ta<;>decide
    simp only [z,if_false]
    rw [hs (!ta),if_neg z])
   refine e2.trans (List.Perm.cons _ ?_)
   have:(fun u=>if u=(!ta) then st' (!ta) else if u=ta then st' ta else st u)=st':=by
    funext u;cases u<;>cases ta<;>rfl
   rw [this]
  have h1:=h0.symm.trans G.ends
  rw [List.flatMap_cons,List.flatMap_cons] at h1
  have eqm:q.more=[q.fst]:=by unfold Pc.more;rw [hm];rfl
  have h2:(endsOf st').Perm (p.more++(q.fst::is.flatMap Pc.ends)):=by
   have e:(p.ends++(q.ends++is.flatMap Pc.ends)).Perm (((o ta,la),ta)::((o (!ta),lb),!ta)::(p.more++(q.fst::is.flatMap Pc.ends))):=by
    unfold Pc.ends
    rw [hp,hq,eqm]
    refine List.Perm.cons _ ?_
    exact List.perm_middle
   exact (h1.trans e).cons_inv.cons_inv
  have hmap:(endsOf fun u=>(st' u).map (relab l2 l1))=(endsOf st').map fun x=>(relab l2 l1 x.1,x.2):=by
   unfold endsOf
   rw [List.map_append,List.map_map,List.map_map,List.map_map,List.map_map];rfl
  rw [hmap]
  refine (h2.map _).trans ?_
  rw [List.map_append,List.map_cons,List.flatMap_cons]
  have r1:(is.flatMap Pc.ends).map (fun x=>(relab l2 l1 x.1,x.2))=is.flatMap Pc.ends:=by
   have:∀ x∈is.flatMap Pc.ends,(relab l2 l1 x.1,x.2)=x:=fun x hx=>by
    obtain⟨y,hy,he⟩:=List.mem_flatMap.mp hx
    have:x.1.2=y.lab:=by
     rcases List.mem_cons.mp he with z | z
     ·subst z;rfl
     ·unfold Pc.more at z
      cases hm:y.main with
      | true=>rw [hm] at z;cases z
      | false=>
       rw [hm] at z
       have e':x=y.fst:=by simpa using z
       subst e';rfl
    unfold relab
    rw [if_neg (by rw [this];exact n2' y hy)]
   exact (List.map_congr_left this).trans (List.map_id _)
  have r2:(relab l2 l1 q.fst.1,q.fst.2)=Pc.lst ⟨l1,p.rows++(r:Int)::q.rows.reverse,p.s,p.main⟩:=by
   show ((hdZ q.rows,if q.lab=l2 then l1 else q.lab),q.s)=((ltZ (p.rows++(r:Int)::q.rows.reverse),l1),lastS p.s (p.rows++(r:Int)::q.rows.reverse))
   rw [q2,rlb,ltZ_app (by simp)]
   have e1:ltZ ((r:Int)::q.rows.reverse)=hdZ q.rows:=by
    have:(r:Int)::q.rows.reverse=[(r:Int)]++q.rows.reverse:=rfl
    rw [this,ltZ_app qrne,ltZ_rev]
   rw [e1]
   congr 1
   unfold lastS at p3 q3 ⊢
   rw [List.length_append,List.length_cons,List.length_reverse]
   have:odd (p.rows.length+(q.rows.length+1))=(odd p.rows.length ^^ !odd q.rows.length):=by
    unfold odd
    rcases Nat.mod_two_eq_zero_or_one p.rows.length with h | h<;>rcases Nat.mod_two_eq_zero_or_one q.rows.length with h' | h'<;>simp [Nat.add_mod,h,h']
   rw [this]
   revert p3 q3
   cases p.s<;>cases q.s<;>cases odd p.rows.length<;>cases odd q.rows.length<;>cases ta<;>decide
  have r3:p.more.map (fun x=>(relab l2 l1 x.1,x.2))=Pc.more ⟨l1,p.rows++(r:Int)::q.rows.reverse,p.s,p.main⟩:=by
   unfold Pc.more
   cases hmp:p.main with
   | true=>rfl
   | false=>
    show [((hdZ p.rows,if p.lab=l2 then l1 else p.lab),p.s)]=[((hdZ (p.rows++(r:Int)::q.rows.reverse),l1),p.s)]
    rw [hdZ_app pne,p2,rla]
  rw [r1,r2,r3]
  exact List.perm_middle
 ·have h1:=G.bows u
  rw [List.flatMap_cons,List.flatMap_cons] at h1
  rw [List.flatMap_cons]
  have e4:(Pc.bows u ⟨l1,p.rows++(r:Int)::q.rows.reverse,p.s,p.main⟩).Perm ((o u,(r:Int))::(p.bows u++q.bows u)):=by
   show (chain p.s (p.rows++(r:Int)::q.rows.reverse) u).Perm _
   rw [chain_join _ _ _ _ pne,p1,p3]
   obtain⟨x,R,hR⟩:∃ x R,q.rows.reverse=x::R:=by
    cases e:q.rows.reverse with
    | nil=>exact absurd e qrne
    | cons x R=>exact⟨x,R,rfl⟩
   have hx:x=o (!ta):=by
    rw [<-q1,<-hdZ_rev,hR];rfl
   have e5:chain ta ((r:Int)::q.rows.reverse) u=(if (!ta)=u then [(o (!ta),(r:Int))] else [])++chain (!ta) q.rows.reverse u:=by
    rw [hR]
    show (if (!ta)=u then [(min (r:Int) x,max (r:Int) x)] else [])++chain (!ta) (x::R) u=_
    have:=low (!ta)
    rw [hx]
    have m1:min (r:Int) (o (!ta))=o (!ta):=by omega
    have m2:max (r:Int) (o (!ta))=(r:Int):=by omega
    rw [m1,m2]
   have m1:min (o ta) (r:Int)=o ta:=by have:=low ta;omega
   have m2:max (o ta) (r:Int)=(r:Int):=by have:=low ta;omega
   rw [e5,m1,m2]
   have cq:(chain (!ta) q.rows.reverse u).Perm (q.bows u):=by
    have:=chain_rev q.rows q.s u
    rw [q3] at this
    exact this
   by_cases z:ta=u
   ·have z':¬ (!ta)=u:=by rw [<-z];cases ta<;>decide
    rw [if_pos z,if_neg z',<-z,List.nil_append,List.append_assoc]
    refine (List.perm_middle (l₁:=chain p.s p.rows ta) (a:=(o ta,(r:Int))) (l₂:=chain (!ta) q.rows.reverse ta)).trans ?_
    rw [<-z] at cq
    exact (cq.append_left _).cons _
   ·have z':(!ta)=u:=by revert z;cases ta<;>cases u<;>decide
    rw [if_neg z,if_pos z',List.append_nil]
    refine (List.perm_middle (l₁:=chain p.s p.rows u) (a:=(o (!ta),(r:Int))) (l₂:=chain (!ta) q.rows.reverse u)).trans ?_
    rw [<-z']
    rw [<-z'] at cq
    exact (cq.append_left _).cons _
  refine List.Perm.trans ?_ (e4.symm.append_right _)
  refine (List.perm_append_comm (l₁:=f u) (l₂:=[(o u,(r:Int))])).trans ?_
  refine List.Perm.cons _ (h1.trans ?_)
  show (Pc.bows u p++(Pc.bows u q++is.flatMap (Pc.bows u))).Perm ((Pc.bows u p++Pc.bows u q)++is.flatMap (Pc.bows u))
  rw [List.append_assoc]
 ·have:=G.stk u
  rw [hs u] at this
  exact this.close.map fun x=>if x=l2 then l1 else x
theorem Gr.join{o1 l1 o2 l2:Int}{n' f':List Oe}(G:Gr b st f r is)(h1:st false=n'++[(o1,l1)])(h2:st true=f'++[(o2,l2)])(hne:l1≠l2):
  ∃ js,Gr b (fun u=>(if u then f' else n').map (relab l2 l1)) (fun u=>f u++[(if u then o2 else o1,(r:Int))]) (r+1) js:=by
 obtain⟨p,q,js,hp,hq,G2⟩:=G.pick2 h1 h2 hne
 cases hm:q.main with
 | false=>
  exact⟨_,G2.join0 (ta:=false) (o:=fun u=>if u then o2 else o1) (st':=fun u=>if u then f' else n') hp hq (fun u=>by cases u;exact h1;exact h2) hm (.inl ⟨rfl,rfl⟩)⟩
 | true=>
  have hm2:p.main=false:=by
   have:=G2.one
   rw [List.countP_cons,List.countP_cons,hm] at this
   cases z:p.main with
   | false=>rfl
   | true=>rw [z] at this;simp at this
  have G3:=G2.perm (List.Perm.swap q p js)
  exact⟨_,G3.join0 (ta:=true) (o:=fun u=>if u then o2 else o1) (st':=fun u=>if u then f' else n') hq hp (fun u=>by cases u;exact h1;exact h2) hm2 (.inr ⟨rfl,rfl⟩)⟩
theorem Gr.many(G:Gr b st f r is):(st false).length+(st true).length+1=2 * is.length:=by
 have h1:=G.ends.length_eq
 unfold endsOf at h1
 rw [List.length_append,List.length_map,List.length_map] at h1
 have h2:∀ js:List Pc,(js.flatMap Pc.ends).length+js.countP Pc.main=2 * js.length:=by
  intro js
  induction js with
  | nil=>rfl
  | cons p js ih=>
   rw [List.flatMap_cons,List.length_append,List.countP_cons,List.length_cons]
   have:p.ends.length+(if p.main=true then 1 else 0)=2:=by
    unfold Pc.ends Pc.more
    cases p.main<;>rfl
   omega
 have:=h2 is
 rw [G.one] at this
 omega
theorem Gr.three(G:Gr b st f r is){x y z:Oe×Bool}{L:List (Oe×Bool)}(h:(endsOf st).Perm (x::y::z::L)):¬ (x.1.2=y.1.2/\y.1.2=z.1.2):=by
 rintro⟨e1,e2⟩
 have cnt:∀ js:List Pc,(js.map Pc.lab).Nodup->∀ l,(js.flatMap Pc.ends).countP (fun e=>decide (e.1.2=l))<=2:=by
  intro js
  induction js with
  | nil=>intro _ l;exact Nat.zero_le _
  | cons p js ih=>
   intro nd l
   rw [List.map_cons,List.nodup_cons] at nd
   rw [List.flatMap_cons,List.countP_append]
   have len:p.ends.length<=2:=by unfold Pc.ends Pc.more;cases p.main<;>simp
   by_cases z:p.lab=l
   ·have:(js.flatMap Pc.ends).countP (fun e=>decide (e.1.2=l))=0:=List.countP_eq_zero.mpr fun e he=>by
     obtain⟨q,hq,hm⟩:=List.mem_flatMap.mp he
     have:e.1.2=q.lab:=by
      rcases List.mem_cons.mp hm with y | y
      ·subst y;rfl
      ·unfold Pc.more at y
       cases hmm:q.main with
       | true=>rw [hmm] at y;cases y
       | false=>
        rw [hmm] at y
        have e':e=q.fst:=by simpa using y
        subst e';rfl
     simp only [decide_eq_true_eq]
     intro w
     exact nd.1 (List.mem_map.mpr ⟨q,hq,by rw [<-this,w,z]⟩)
    have:=List.countP_le_length (p:=fun e:Oe×Bool=>decide (e.1.2=l)) (l:=p.ends)
    omega
   ·have:p.ends.countP (fun e=>decide (e.1.2=l))=0:=List.countP_eq_zero.mpr fun e he=>by
     have:e.1.2=p.lab:=by
      rcases List.mem_cons.mp he with y | y
      ·subst y;rfl
      ·unfold Pc.more at y
       cases hmm:p.main with
       | true=>rw [hmm] at y;cases y
       | false=>
        rw [hmm] at y
        have e':e=p.fst:=by simpa using y
        subst e';rfl
     simp only [decide_eq_true_eq]
     intro w
     exact z (by rw [<-this,w])
    have:=ih nd.2 l
    omega
 have h1:=cnt is G.labs x.1.2
 rw [<-(G.ends.symm.trans h).symm.countP_eq] at h1
 rw [List.countP_cons,List.countP_cons,List.countP_cons] at h1
 simp only [e1,e2,decide_true,if_true] at h1
 omega
theorem Gr.start (b : Bool) : Gr b (fun u => if u = b then [((0 : Int), (0 : Int))] else []) (fun _ => []) 1 [⟨0, [0], !b, true⟩] := by
  refine ⟨fun p hp => ?_, ?_, by simp, fun p hp => ?_, rfl, fun p hp _ => ?_, ?_, fun t => .refl _, fun t => ?_⟩
  · have e : p = ⟨0, [0], !b, true⟩ := by simpa using hp
    subst e; simp
  · exact .refl _
  · have e : p = ⟨0, [0], !b, true⟩ := by simpa using hp
    subst e; exact (by decide : (0 : Int) < 1)
  · have e : p = ⟨0, [0], !b, true⟩ := by simpa using hp
    subst e; exact ⟨rfl, rfl⟩
  · cases b <;> exact .refl _
  · by_cases z : t = b
    · simp only [z, if_true]
      exact ⟨by simp, fun e h => by have e' : e = (0, 0) := by simpa using h
                                    subst e'; decide, fun p h => (nomatch h), fun p h => (nomatch h), fun p h => (nomatch h)⟩
    · simp only [z, if_false]
      exact ⟨.nil, fun p h => (nomatch h), fun p h => (nomatch h), fun p h => (nomatch h), fun p h => (nomatch h)⟩
theorem Gr.last{t:Bool}{o l:Int}(G:Gr b st f r is)(h1:st t=[(o,l)])(h2:st (!t)=[]):
  ∃ ns:List Int,ns.length+1=r/\ns.Perm (rngZ 1 ns.length)/\∀ u,(if u=t then f u++[(o,(r:Int))] else f u).Perm (sideBows b ns u (ns.length+1))/\∀ p∈sideBows b ns u (ns.length+1),∀ q∈sideBows b ns u (ns.length+1),crossZ p q=false:=by
 have hl:=G.many
 have h3:(st false).length+(st true).length=1:=by
  cases t
  ·rw [h1,show st true=[] from h2];rfl
  ·rw [h1,show st false=[] from h2];rfl
 obtain⟨p,rfl⟩:∃ p,is=[p]:=by
  match is,(show is.length=1 by omega) with
  | [p],_=>exact⟨p,rfl⟩
 have hm:p.main=true:=by
  have:=G.one
  rw [List.countP_cons] at this
  cases z:p.main with
  | true=>rfl
  | false=>rw [z] at this;simp at this
 obtain⟨hd,hs⟩:=G.hd p (by simp) hm
 have he:=G.ends
 have hp:p.lst=((o,l),t):=by
  have e:endsOf st=[((o,l),t)]:=by
   unfold endsOf
   cases t
   ·rw [h1,show st true=[] from h2];rfl
   ·rw [h1,show st false=[] from h2];rfl
  rw [e,List.flatMap_cons,List.flatMap_nil,List.append_nil] at he
  unfold Pc.ends Pc.more at he
  rw [hm] at he
  have:=List.perm_singleton.mp he.symm
  simpa using this
 have G':=G.ext hp (st':=[]) h1
 obtain⟨ns,hns⟩:∃ ns,p.rows=0::ns:=by
  cases e:p.rows with
  | nil=>rw [e] at hd;cases hd
  | cons a R=>rw [e] at hd;cases hd;exact⟨R,rfl⟩
 have hr:=G.rows
 rw [List.flatMap_cons,List.flatMap_nil,List.append_nil,hns] at hr
 have hlen:=hr.length_eq
 rw [List.length_cons,rngZ_len] at hlen
 have hr1:ns.Perm (rngZ 1 ns.length):=by
  have e:rngZ 0 r=0::rngZ 1 ns.length:=by
   rw [<-hlen]
   unfold rngZ
   rw [List.range_succ_eq_map,List.map_cons,List.map_map]
   congr 1
   refine List.map_congr_left fun i _=>?_
   simp only [Function.comp]
   push_cast
   omega
  rw [e] at hr
  exact hr.cons_inv
 have er:p.rows++[(r:Int)]=rowsZ ns:=by
  rw [hns,<-hlen]
  unfold rowsZ
  push_cast
  rfl
 have ch:∀ (k m:Nat) (u:Bool),m=ns.length+1 - k->k<=ns.length+1->chain (!(b ^^ odd k)) ((rowsZ ns).drop k) u=(((List.range m).map (·+k)).filter (onSide b u)).map (stepB ns):=by
  intro k m
  induction m generalizing k with
  | zero=>
   intro u hm hk
   have e:k=ns.length+1:=by omega
   have:(rowsZ ns).drop k=[rowZ ns k]:=by
    have h:=List.getElem?_eq_some_iff.mp (rowZ_get (ns:=ns) (i:=k) (by omega))
    rw [List.drop_eq_getElem_cons h.1,h.2,List.drop_of_length_le (by rw [rowsZ_len];omega)]
   rw [this];rfl
  | succ m ih=>
   intro u hm hk
   have h:=List.getElem?_eq_some_iff.mp (rowZ_get (ns:=ns) (i:=k) (by omega))
   have h':=List.getElem?_eq_some_iff.mp (rowZ_get (ns:=ns) (i:=k+1) (by omega))
   have ih':=ih (k+1) u (by omega) (by omega)
   rw [List.drop_eq_getElem_cons h.1,h.2,List.drop_eq_getElem_cons h'.1,h'.2]
   show (if (!!(b ^^ odd k))=u then [(min (rowZ ns k) (rowZ ns (k+1)),max (rowZ ns k) (rowZ ns (k+1)))] else [])++chain (!!(b ^^ odd k)) (rowZ ns (k+1)::(rowsZ ns).drop (k+1+1)) u=_
   have e2:chain (!!(b ^^ odd k)) (rowZ ns (k+1)::(rowsZ ns).drop (k+1+1)) u=(((List.range m).map (·+(k+1))).filter (onSide b u)).map (stepB ns):=by
    rw [<-ih',odd_succ]
    have e3:(!(b ^^ !odd k))=!!(b ^^ odd k):=by cases b<;>cases odd k<;>rfl
    rw [e3]
    congr 1
    rw [List.drop_eq_getElem_cons h'.1,h'.2]
   rw [e2,List.range_succ_eq_map,List.map_cons,List.map_map,List.filter_cons]
   have e4:((fun x=>x+k)∘Nat.succ)=fun x=>x+(k+1):=by funext x;simp only [Function.comp];omega
   rw [e4]
   show _=List.map (stepB ns) (if onSide b u (0+k)=true then _ else _)
   rw [Nat.zero_add]
   have e5:onSide b u k=decide ((!!(b ^^ odd k))=u):=by unfold onSide;cases b<;>cases u<;>cases odd k<;>rfl
   rw [e5]
   by_cases z:(!!(b ^^ odd k))=u
   ·rw [if_pos z,decide_eq_true z,if_pos rfl];rfl
   ·rw [if_neg z,decide_eq_false z,if_neg Bool.false_ne_true];rfl
 have sb:∀ u,Pc.bows u { p with rows:=p.rows++[(r:Int)] }=sideBows b ns u (ns.length+1):=fun u=>by
  show chain p.s (p.rows++[(r:Int)]) u=_
  have:=ch 0 (ns.length+1) u rfl (Nat.zero_le _)
  rw [show odd 0=false from rfl,Bool.xor_false] at this
  rw [hs,er]
  refine Eq.trans this ?_
  unfold sideBows
  congr 2
  simp
 have pu:∀ u,(if u=t then f u++[(o,(r:Int))] else f u).Perm (sideBows b ns u (ns.length+1)):=fun u=>by
  have:=G'.bows u
  rw [List.flatMap_cons,List.flatMap_nil,List.append_nil,sb u] at this
  exact this
 refine⟨ns,hlen,hr1,fun u=>⟨pu u,fun x hx y hy=>?_⟩⟩
 exact (G'.stk u).nc x ((pu u).mem_iff.mpr hx) y ((pu u).mem_iff.mpr hy)
end
end Rm
namespace Rm
open PySem L2
def labsOf(st:Bool->List Oe):List Int:=(st false++(st true).reverse).map (·.2)
def tgt(L:List Int):Nat:=if L[0]? = L[1]? then 2 else 1
def Phi(st:Bool->List Oe):Nat:=if (labsOf st).length<=1 then 0 else (((st false).length:Int) - tgt (labsOf st)).natAbs+3 * ((labsOf st).length / 2) - 2
def needZ(m:Int):Int:=if m<2 then 0 else 5 * (m - 1) / 2 - 2
theorem tgt_two(L:List Int):tgt L=1\/tgt L=2:=by unfold tgt;split<;>simp
theorem labs_len(st:Bool->List Oe):(labsOf st).length=(st false).length+(st true).length:=by simp [labsOf]
section
variable {b:Bool} {st:Bool->List Oe} {f:Bool->List Bw} {r:Nat} {is:List Pc}
theorem Gr.phi_need(G:Gr b st f r is):(Phi st:Int)<=needZ ((st false).length+(st true).length):=by
 have hm:=G.many
 have hl:=labs_len st
 unfold Phi needZ
 by_cases h:(labsOf st).length<=1
 ·rw [if_pos h]
  split<;>omega
 ·rw [if_neg h,if_neg (by omega)]
  rcases tgt_two (labsOf st) with e | e<;>rw [e]<;>omega
theorem Gr.tgt_ne(G:Gr b st f r is)(h:1<(labsOf st).length):∃ x y,(labsOf st)[tgt (labsOf st) - 1]? = some x/\(labsOf st)[tgt (labsOf st)]? = some y/\x≠y:=by
 have hm:=G.many
 have hl:=labs_len st
 have h3:3<=(labsOf st).length:=by omega
 have hE:∃ x y z L,(endsOf st).Perm (x::y::z::L)/\(labsOf st)[0]? = some x.1.2/\(labsOf st)[1]? = some y.1.2/\(labsOf st)[2]? = some z.1.2:=by
  have hp:(endsOf st).Perm ((st false).map (·,false)++((st true).reverse).map (·,true)):=by
   unfold endsOf
   exact List.Perm.append_left _ ((List.reverse_perm _).map _).symm
  have hlab:labsOf st=((st false).map (·,false)++((st true).reverse).map (·,true)).map (fun x:Oe×Bool=>x.1.2):=by
   unfold labsOf
   rw [List.map_append,List.map_append,List.map_map,List.map_map];rfl
  rw [hlab] at h3 ⊢
  generalize (st false).map (·,false)++((st true).reverse).map (·,true)=E at hp h3 ⊢
  match E,h3 with
  | x::y::z::L,_=>exact⟨x,y,z,L,hp,rfl,rfl,rfl⟩
 obtain⟨x,y,z,L,hp,e0,e1,e2⟩:=hE
 have:=G.three hp
 unfold tgt
 rw [e0,e1]
 by_cases e:x.1.2=y.1.2
 ·rw [if_pos (by rw [e])]
  exact⟨_,_,e1,e2,fun z=>this ⟨e,z⟩⟩
 ·rw [if_neg (fun z=>e (Option.some.inj z))]
  exact⟨_,_,e0,e1,e⟩
theorem phi_b{far':List Oe}{o l:Int}(h:st true=far'++[(o,l)])(h1:1<(labsOf st).length)(ht:(st false).length<tgt (labsOf st)):Phi (fun u=>if u=true then far' else st u++[((r:Int),l)])+1=Phi st:=by
 have e:labsOf (fun u=>if u=true then far' else st u++[((r:Int),l)])=labsOf st:=by
  unfold labsOf
  simp only [h,Bool.false_eq_true,if_false,if_true,List.reverse_append,List.reverse_cons,List.reverse_nil,List.nil_append,List.map_append,List.map_cons,List.map_nil,List.append_assoc,List.cons_append]
 unfold Phi
 rw [e,if_neg (by omega),if_neg (by omega)]
 have e2:((fun u=>if u=true then far' else st u++[((r:Int),l)]) false).length=(st false).length+1:=by simp
 rw [e2]
 have:=labs_len st
 omega
theorem phi_c{near':List Oe}{o l:Int}(h:st false=near'++[(o,l)])(h1:1<(labsOf st).length)(ht:tgt (labsOf st)<(st false).length):Phi (fun u=>if u=false then near' else st u++[((r:Int),l)])+1=Phi st:=by
 have e:labsOf (fun u=>if u=false then near' else st u++[((r:Int),l)])=labsOf st:=by
  unfold labsOf
  simp only [h,Bool.true_eq_false,if_false,if_true,List.reverse_append,List.reverse_cons,List.reverse_nil,List.nil_append,List.map_append,List.map_cons,List.map_nil,List.append_assoc,List.cons_append]
 unfold Phi
 rw [e,if_neg (by omega),if_neg (by omega)]
 have e2:(st false).length=near'.length+1:=by rw [h];simp
 have e3:((fun u=>if u=false then near' else st u++[((r:Int),l)]) false).length=near'.length:=by simp
 rw [e3]
 omega
theorem Gr.phi_d{n' f':List Oe}{o1 l1 o2 l2:Int}(G:Gr b st f r is)(h:st false=n'++[(o1,l1)])(h':st true=f'++[(o2,l2)])(h1:1<(labsOf st).length)(ht:(st false).length=tgt (labsOf st)):Phi (fun u=>(if u then f' else n').map (relab l2 l1))+1<=Phi st:=by
 have hm:=G.many
 have hl:=labs_len st
 have hl2:=labs_len (fun u=>(if u then f' else n').map (relab l2 l1))
 have e2:(st false).length=n'.length+1:=by rw [h];simp
 have e3:(st true).length=f'.length+1:=by rw [h'];simp
 simp only [Bool.false_eq_true,if_false,if_true,List.length_map] at hl2
 have t1:=tgt_two (labsOf st)
 have t2:=tgt_two (labsOf (fun u=>(if u then f' else n').map (relab l2 l1)))
 unfold Phi
 rw [if_neg (show ¬ (labsOf st).length<=1 by omega)]
 have e4:((fun u:Bool=>(if u=true then f' else n').map (relab l2 l1)) false).length=n'.length:=by simp
 rw [e4]
 split
 ·omega
 ·rcases t1 with t1 | t1<;>rcases t2 with t2 | t2<;>rw [t1,t2]<;>omega
end
end Rm
namespace L2
open PySem PySem.Spec PyProof.Rows
def CtD(dO:Option Addr)(e:Addr)(h:Heap):Prop:=∃ o vs,h.get? e=some o/\(o.dict=dO/\o.data=.fields vs)/\vs[2]? = some .none
def tRaise(C:Addr)(E:XK)(t:TA):TS:=fun _ σ H=>t σ H fun vs H1=>vs.length<=sizeLine/\E (.ref C) none H1
def excD(dO:Option Addr)(C a:Addr):HO:=.ext fun h=>(∃ o,h.get? a=some o/\o.cls=.ref C)/\CtD dO a h
def tTry(sp:Sp)(K:PySem.W.Frag)(c:Value)(i:Nat)(t:TA)(ts:Addr->TS):TS:=fun D σ H=>t σ H fun vs H1=>sp vs H1 (fun _ H2=>D.nx σ H2) fun cls dO H2=>
 ∃ C,cls=.ref C/\PySem.W.exmOne K (.ref C) c=some true/\∀ a,H2 a=none->ts a { nx:=fun σ' H'=>D.nx (σ'.set i none) H',rt:=D.rt,bk:=fun σ' H'=>D.bk (σ'.set i none) H',ct:=fun σ' H'=>D.ct (σ'.set i none) H' } (σ.set i (some (.ref a))) (upd H2 a (excD dO C a))
end L2
namespace L2
open PySem PySem.Spec PyProof.Rows
section
variable {σ:St} {H:Hp}
theorem w_raise{C:Addr}{E:XK}{t:TA}{D:Ends}:tRaise C E t D σ H=t σ H fun vs H1=>vs.length<=sizeLine/\E (.ref C) none H1:=rfl
theorem w_try{sp:Sp}{K:PySem.W.Frag}{c:Value}{i:Nat}{t:TA}{ts:Addr->TS}{D:Ends}:tTry sp K c i t ts D σ H=t σ H fun vs H1=>sp vs H1 (fun _ H2=>D.nx σ H2) fun cls dO H2=>
 ∃ C,cls=.ref C/\PySem.W.exmOne K (.ref C) c=some true/\∀ a,H2 a=none->ts a { nx:=fun σ' H'=>D.nx (σ'.set i none) H',rt:=D.rt,bk:=fun σ' H'=>D.bk (σ'.set i none) H',ct:=fun σ' H'=>D.ct (σ'.set i none) H' } (σ.set i (some (.ref a))) (upd H2 a (excD dO C a)):=rfl
end
end L2
namespace L2
open PySem PySem.Spec PyProof.Rows
def rSlS:V->Option Int->Option Int->Hp->VK->Prop:=fun x lo hi H Q=>∃ z,x=.str z/\z.length<=sizeLine/\Q (.str (Txt.slice z lo hi)) H
section
variable {X:Cx}
theorem sl_str:SlR X rSlS:=by
 intro pins s σ H x v vl vu lo hi sl Q I rx hs pl pu h
 obtain⟨z,rfl,hz,q⟩:=h
 obtain⟨t,rfl⟩:=rx
 have fin:∀ t' k,EP X pins σ Q (.str (Txt.slice z lo hi) t') { s with toks:=k }:=fun t' k=>⟨.str _,H,I.tok k,⟨t',rfl⟩,q⟩
 refine⟨"str",_,F.slot_str_getitem.lookup,typeIs_str _ _ _,?_⟩
 cases pl with
 | none=>
  cases pu with
  | none=>exact wpAny_getItem_str_slice (l:=none) (u:=none) (st:=none) hs rfl (post_val_or_str ⟨Nat.le_trans (Txt.slice_le z _ _) hz,fin⟩)
  | int j u=>exact wpAny_getItem_str_slice (l:=none) (u:=some (j,u)) (st:=none) hs rfl (post_val_or_str ⟨Nat.le_trans (Txt.slice_le z _ _) hz,fin⟩)
 | int i w=>
  cases pu with
  | none=>exact wpAny_getItem_str_slice (l:=some (i,w)) (u:=none) (st:=none) hs rfl (post_val_or_str ⟨Nat.le_trans (Txt.slice_le z _ _) hz,fin⟩)
  | int j u=>exact wpAny_getItem_str_slice (l:=some (i,w)) (u:=some (j,u)) (st:=none) hs rfl (post_val_or_str ⟨Nat.le_trans (Txt.slice_le z _ _) hz,fin⟩)
theorem w_slS{z:Str}{lo hi:Option Int}{H:Hp}{Q:VK}:rSlS (.str z) lo hi H Q=(z.length<=sizeLine/\Q (.str (Txt.slice z lo hi)) H):=
 propext ⟨fun ⟨_,e,h⟩=>by cases e;exact h,fun h=>⟨z,rfl,h⟩⟩
end
end L2
namespace Rm
open PySem L2
def wo(H:Hp)(m:Addr):Hp:=fun b=>if b=m then none else H b
theorem wo_same(H:Hp)(m:Addr):Same (wo H m) H:=fun b o e=>by
 unfold wo at e
 by_cases h:b=m
 ·rw [if_pos h] at e;cases e
 ·rw [if_neg h] at e;exact e
theorem wo_new{H:Hp}{m t:Addr}{o:HO}(h:H t=none):Same (wo H m) (wo (upd H t o) m):=fun b u e=>by
 have e':=wo_same H m b u e
 unfold wo at e ⊢
 by_cases hb:b=m
 ·rw [if_pos hb] at e;cases e
 ·rw [if_neg hb,upd_ne (ne_of_none e' h)];exact e'
theorem wo_at{H:Hp}{m t:Addr}{u:HO}(h:t≠m)(e:H t=some u):wo H m t=some u:=by unfold wo;rw [if_neg h];exact e
end Rm
namespace Rm
open PySem L2
def Fr(A B:Bool->Addr)(H H':Hp):Prop:=∀ b o,(∀ u,b≠A u/\b≠B u)->H b=some o->H' b=some o
theorem Fr.refl(A B:Bool->Addr)(H:Hp):Fr A B H H:=fun _ _ _ h=>h
theorem Fr.trans{A B:Bool->Addr}{H H1 H2:Hp}(a:Fr A B H H1)(b:Fr A B H1 H2):Fr A B H H2:=fun c o n h=>b c o n (a c o n h)
theorem Fr.new{A B:Bool->Addr}{H H':Hp}{t:Addr}{o:HO}(a:Fr A B H H')(n:H' t=none):Fr A B H (upd H' t o):=fun c u m h=>by
 have:=a c u m h
 rw [upd_ne (ne_of_none this n)];exact this
theorem Fr.updA{A B:Bool->Addr}{H H':Hp}{o:HO}(a:Fr A B H H')(u:Bool):Fr A B H (upd H' (A u) o):=fun c v m h=>by rw [upd_ne (m u).1];exact a c v m h
theorem Fr.updB{A B:Bool->Addr}{H H':Hp}{o:HO}(a:Fr A B H H')(u:Bool):Fr A B H (upd H' (B u) o):=fun c v m h=>by rw [upd_ne (m u).2];exact a c v m h
theorem Fr.same{A B:Bool->Addr}{H H':Hp}(s:Same H H'):Fr A B H H':=fun c v _ h=>s c v h
structure GS (H:Hp) (oe fd:Addr) (A B:Bool->Addr) (st:Bool->List Oe) (f:Bool->List Bw):Prop where
 oe_:H oe=some (.lst [.ref (A false),.ref (A true)])
 fd_:H fd=some (.lst [.ref (B false),.ref (B true)])
 s:∀ u,BowsAt H (A u) (st u)
 f_:∀ u,BowsAt H (B u) (f u)
 na:A false≠A true
 nb:B false≠B true
 ab:∀ u v,A u≠B v
 no:∀ u,oe≠A u/\oe≠B u/\fd≠A u/\fd≠B u
section
variable {H:Hp} {oe fd:Addr} {A B:Bool->Addr} {st:Bool->List Oe} {f:Bool->List Bw}
theorem GS.aa(G:GS H oe fd A B st f){u v:Bool}(h:u≠v):A u≠A v:=by
 cases u<;>cases v<;>first | exact absurd rfl h | exact G.na | exact G.na.symm
theorem GS.bb(G:GS H oe fd A B st f){u v:Bool}(h:u≠v):B u≠B v:=by
 cases u<;>cases v<;>first | exact absurd rfl h | exact G.nb | exact G.nb.symm
theorem GS.same{H':Hp}(G:GS H oe fd A B st f)(s:Same H H'):GS H' oe fd A B st f:=
 ⟨s _ _ G.oe_,s _ _ G.fd_,fun u=>(G.s u).same s,fun u=>(G.f_ u).same s,G.na,G.nb,G.ab,G.no⟩
theorem GS.new{t:Addr}{o:HO}(G:GS H oe fd A B st f)(n:H t=none):GS (upd H t o) oe fd A B st f:=G.same ((Same.refl H).new n)
theorem bows_unsnoc{l:Addr}{S:List Bw}{p:Bw}(h:BowsAt H l (S++[p])):∃ (as:List Addr) (a:Addr),H l=some (.lst (as.map V.ref++[.ref a]))/\Paired (tupAt H) as S/\tupAt H a p/\as.length=S.length:=by
 obtain⟨bs,h1,h2⟩:=h
 have key:∀ {bs:List Addr} {S:List Bw},Paired (tupAt H) bs (S++[p])->∃ as a,bs=as++[a]/\Paired (tupAt H) as S/\tupAt H a p:=by
  intro bs S
  induction S generalizing bs with
  | nil=>intro h;cases h with | cons x y=>cases y;exact⟨[],_,rfl,.nil,x⟩
  | cons q S ih=>intro h;cases h with | cons x y=>obtain⟨as,a,rfl,h3,h4⟩:=ih y;exact⟨_::as,a,rfl,.cons x h3,h4⟩
 obtain⟨as,a,rfl,h3,h4⟩:=key h2
 exact⟨as,a,by rw [h1,List.map_append];rfl,h3,h4,Paired.length h3⟩
theorem paired_upd{l:Addr}{as:List Addr}{S:List Bw}{xs ys:List V}(hl:H l=some (.lst xs))(h:Paired (tupAt H) as S):Paired (tupAt (upd H l (.lst ys))) as S:=
 Paired.mapP h fun a p ta=>by
  have:a≠l:=fun e=>by subst e;unfold tupAt at ta;rw [hl] at ta;cases ta
  unfold tupAt;rw [upd_ne this];exact ta
theorem GS.setA(G:GS H oe fd A B st f)(u:Bool){as:List Addr}{S:List Oe}(h:Paired (tupAt H) as S):GS (upd H (A u) (.lst (as.map V.ref))) oe fd A B (fun v=>if v=u then S else st v) f:=by
 obtain⟨bs,e,_⟩:=G.s u
 refine⟨by rw [upd_ne (G.no u).1];exact G.oe_,by rw [upd_ne (G.no u).2.2.1];exact G.fd_,fun v=>?_,fun v=>bows_upd (G.f_ v) e (G.ab u v).symm,G.na,G.nb,G.ab,G.no⟩
 by_cases z:v=u
 ·subst z
  simp only [if_true]
  exact⟨as,upd_same,paired_upd e h⟩
 ·simp only [z,if_false]
  exact bows_upd (G.s v) e (G.aa z)
theorem GS.setB(G:GS H oe fd A B st f)(u:Bool){as:List Addr}{S:List Bw}(h:Paired (tupAt H) as S):GS (upd H (B u) (.lst (as.map V.ref))) oe fd A B st (fun v=>if v=u then S else f v):=by
 obtain⟨bs,e,_⟩:=G.f_ u
 refine⟨by rw [upd_ne (G.no u).2.1];exact G.oe_,by rw [upd_ne (G.no u).2.2.2];exact G.fd_,fun v=>bows_upd (G.s v) e (G.ab v u),fun v=>?_,G.na,G.nb,G.ab,G.no⟩
 by_cases z:v=u
 ·subst z
  simp only [if_true]
  exact⟨as,upd_same,paired_upd e h⟩
 ·simp only [z,if_false]
  exact bows_upd (G.f_ v) e (G.bb z)
theorem GS.pop(G:GS H oe fd A B st f){u:Bool}{S:List Oe}{p:Oe}(h:st u=S++[p]):∃ (xs:List V) (a:Addr),H (A u)=some (.lst (xs++[.ref a]))/\tupAt H a p/\GS (upd H (A u) (.lst xs)) oe fd A B (fun v=>if v=u then S else st v) f:=by
 have:=G.s u
 rw [h] at this
 obtain⟨as,a,e,hp,ta,_⟩:=bows_unsnoc this
 exact⟨as.map V.ref,a,e,ta,G.setA u hp⟩
theorem GS.push(G:GS H oe fd A B st f)(u:Bool){t:Addr}{p:Oe}(ht:tupAt H t p):∃ xs:List V,H (A u)=some (.lst xs)/\xs.length=(st u).length/\GS (upd H (A u) (.lst (xs++[.ref t]))) oe fd A B (fun v=>if v=u then st u++[p] else st v) f:=by
 obtain⟨as,e,hp⟩:=G.s u
 have:=G.setA u (pair_snoc hp ht)
 rw [List.map_append] at this
 exact⟨as.map V.ref,e,by rw [List.length_map];exact Paired.length hp,this⟩
theorem GS.add(G:GS H oe fd A B st f)(u:Bool){t:Addr}{p:Bw}(ht:tupAt H t p):∃ xs:List V,H (B u)=some (.lst xs)/\xs.length=(f u).length/\GS (upd H (B u) (.lst (xs++[.ref t]))) oe fd A B st (fun v=>if v=u then f u++[p] else f v):=by
 obtain⟨as,e,hp⟩:=G.f_ u
 have:=G.setB u (pair_snoc hp ht)
 rw [List.map_append] at this
 exact⟨as.map V.ref,e,by rw [List.length_map];exact Paired.length hp,this⟩
end
def ltr (k:Nat):Str:=if k=0 then Str.ofString "a" else if k=1 then Str.ofString "b" else if k=2 then Str.ofString "c" else Str.ofString "d"
def inS(y:String)(k:Nat):Bool:=!(Builtin.Str.occurrences (Str.ofString y) (ltr k) 0 (Str.ofString y).length 1).isEmpty
theorem in_cd:inS "cd" 0=false/\inS "cd" 1=false/\inS "cd" 2=true/\inS "cd" 3=true:=by decide +kernel
theorem in_bd:inS "bd" 0=false/\inS "bd" 1=true/\inS "bd" 2=false/\inS "bd" 3=true:=by decide +kernel
theorem in_ab:inS "ab" 0=true/\inS "ab" 1=true/\inS "ab" 2=false/\inS "ab" 3=false:=by decide +kernel
theorem in_ac:inS "ac" 0=true/\inS "ac" 1=false/\inS "ac" 2=true/\inS "ac" 3=false:=by decide +kernel
theorem ltr_d:∀ k,k<4->decide (ltr k=Str.ofString "d")=decide (k=3):=by decide +kernel
theorem ltr_b:∀ k,k<4->decide (ltr k=Str.ofString "b")=decide (k=1):=by decide +kernel
theorem ltr_a:∀ k,k<4->decide (ltr k=Str.ofString "a")=decide (k=0):=by decide +kernel
def canB(st:Bool->List Oe)(k:Nat):Bool:=
 if k=3 then decide (st false≠[])&&(decide (st true≠[])&&decide (((st false).getLast?.map (·.2))≠((st true).getLast?.map (·.2))))
 else if k=1 then decide (st true≠[]) else decide (k=0) || decide (st false≠[])
inductive Put (st:Bool->List Oe) (f:Bool->List Bw) (r:Nat):Nat->(Bool->List Oe)->(Bool->List Bw)->Prop
 | a:Put st f r 0 (fun u=>st u++[((r:Int),(r:Int))]) f
 | b {S:List Oe} {o l:Int}:st true=S++[(o,l)]->Put st f r 1 (fun u=>if u=true then S else st u++[((r:Int),l)]) (fun u=>if u=true then f u++[(o,(r:Int))] else f u)
 | c {S:List Oe} {o l:Int}:st false=S++[(o,l)]->Put st f r 2 (fun u=>if u=false then S else st u++[((r:Int),l)]) (fun u=>if u=false then f u++[(o,(r:Int))] else f u)
 | d {n' f':List Oe} {o1 l1 o2 l2:Int}:st false=n'++[(o1,l1)]->st true=f'++[(o2,l2)]->l1≠l2->Put st f r 3 (fun u=>(if u then f' else n').map (relab l2 l1)) (fun u=>f u++[(if u then o2 else o1,(r:Int))])
theorem Put.gr{b:Bool}{st st':Bool->List Oe}{f f':Bool->List Bw}{r k:Nat}{is:List Pc}(P:Put st f r k st' f')(G:Gr b st f r is):∃ js,Gr b st' f' (r+1) js:=by
 cases P with
 | a=>exact⟨_,G.opA⟩
 | @b S o l h=>obtain⟨p,js,hp,G1,_⟩:=G.pick (e:=((o,l),true)) (by unfold endsOf;rw [h];simp);exact⟨_,G1.ext hp h⟩
 | @c S o l h=>obtain⟨p,js,hp,G1,_⟩:=G.pick (e:=((o,l),false)) (by unfold endsOf;rw [h];simp);exact⟨_,G1.ext hp h⟩
 | d h h' ne=>exact G.join h h' ne
theorem put_of{st:Bool->List Oe}{k:Nat}(f:Bool->List Bw)(r:Nat)(hk:k<4)(h:canB st k=true):∃ st' f',Put st f r k st' f':=by
 have sn:∀ S:List Oe,S≠[]->∃ T o l,S=T++[(o,l)]:=fun S h=>by
  rcases List.eq_nil_or_concat S with e | ⟨T,⟨o,l⟩,e⟩
  ·exact absurd e h
  ·exact⟨T,o,l,by rw [e,List.concat_eq_append]⟩
 match k,hk with
 | 0,_=>exact⟨_,_,.a⟩
 | 1,_=>obtain⟨T,o,l,e⟩:=sn (st true) (of_decide_eq_true h);exact⟨_,_,.b e⟩
 | 2,_=>
  have h':(false || decide (st false≠[]))=true:=h
  rw [Bool.false_or] at h'
  obtain⟨T,o,l,e⟩:=sn (st false) (of_decide_eq_true h');exact⟨_,_,.c e⟩
 | 3,_=>
  have h':(decide (st false≠[])&&(decide (st true≠[])&&decide (((st false).getLast?.map (·.2))≠((st true).getLast?.map (·.2)))))=true:=h
  rw [Bool.and_eq_true,Bool.and_eq_true] at h'
  obtain⟨T,o,l,e⟩:=sn (st false) (of_decide_eq_true h'.1)
  obtain⟨T',o',l',e'⟩:=sn (st true) (of_decide_eq_true h'.2.1)
  have:=of_decide_eq_true h'.2.2
  rw [e,e'] at this
  exact⟨_,_,.d e e' fun z=>this (by simp [z])⟩
def spDigits:Sp:=fun vs H Q _=>∃ c base:Int,vs=[.int c,.int base]/\1<=base/\base<=100/\∀ (l:Addr) (ds:List Int) (H':Hp),H l=none->Same H H'->H' l=some (.lst (ds.map V.int))->ds.length<=20->Q (.ref l) H'
def spNeed:Sp:=fun vs H Q _=>∃ m:Int,vs=[.int m]/\-1000<=m/\m<=1000/\Q (.int (needZ m)) H
def spCan:Sp:=fun vs H Q _=>∃ oe fd A B st f,∃ k:Nat,vs=[.ref oe,.str (ltr k)]/\k<4/\GS H oe fd A B st f/\Q (.bl (canB st k)) H
def spPut:Sp:=fun vs H Q _=>∃ oe fd A B st f st' f',∃ k r:Nat,vs=[.ref oe,.ref fd,.str (ltr k),.int r]/\GS H oe fd A B st f/\(∀ u,(st u).length<=100/\(f u).length<=100)/\Put st f r k st' f'/\∀ H',Fr A B H H'->GS H' oe fd A B st' f'->Q .non H'
end Rm
namespace Rm
open PySem L2
theorem atI_last{α:Type}(xs:List α)(v:α):atI (xs++[v]) (-1)=some v:=by
 unfold atI
 have e:ixN (xs++[v]).length (-1)=some xs.length:=by
  unfold ixN
  rw [List.length_append,List.length_singleton,if_neg (by decide),if_pos (by omega)]
  congr 1
  omega
 rw [e]
 simp
theorem last_snoc(S:List Oe)(p:Oe):((S++[p]).getLast?.map (·.2))=some p.2:=by simp
theorem snoc_or(S:List Oe):S=[]\/∃ T o l,S=T++[(o,l)]:=by
 rcases List.eq_nil_or_concat S with e | ⟨T,⟨o,l⟩,e⟩
 ·exact .inl e
 ·exact .inr ⟨T,o,l,by rw [e,List.concat_eq_append]⟩
theorem eqD_int{K:PySem.W.Frag}{H:Hp}{m n:Int}{neg:Bool}{Q:VK}(q:Q (.bl (if neg then !decide (m=n) else decide (m=n))) H):rEqD K neg (.int m) (.int n) H Q:=
 ⟨.int m,.int n,.int _,.int _,rfl,rfl,Nat.zero_le _,by
  have e:PyData.eqv (.int m) (.int n)=decide (m=n):=rfl
  rw [e];exact q⟩
theorem occ(y:String)(k:Nat):(Builtin.Str.occurrences (Str.ofString y) (ltr k) 0 (Str.ofString y).length 1).isEmpty=!inS y k:=by unfold inS;rw [Bool.not_not]
theorem Fr.updP{A B:Bool->Addr}{H H':Hp}{p:Addr}{o:HO}(a:Fr A B H H')(n:H p=none):Fr A B H (upd H' p o):=fun c u m h=>by rw [upd_ne (ne_of_none h n)];exact a c u m h
theorem GS.updP{H:Hp}{oe fd p:Addr}{A B:Bool->Addr}{st:Bool->List Oe}{f:Bool->List Bw}{xs ys:List V}(G:GS H oe fd A B st f)(hp:H p=some (.lst xs))(pn:∀ u,p≠A u/\p≠B u)(po:p≠oe/\p≠fd):GS (upd H p (.lst ys)) oe fd A B st f:=
 ⟨by rw [upd_ne po.1.symm];exact G.oe_,by rw [upd_ne po.2.symm];exact G.fd_,fun u=>bows_upd (G.s u) hp (pn u).1.symm,fun u=>bows_upd (G.f_ u) hp (pn u).2.symm,G.na,G.nb,G.ab,G.no⟩
theorem tup_upd{H:Hp}{l a:Addr}{p:Bw}{xs ys:List V}(hl:H l=some (.lst xs))(h:tupAt H a p):tupAt (upd H l (.lst ys)) a p:=by
 have:a≠l:=fun e=>by subst e;unfold tupAt at h;rw [hl] at h;cases h
 unfold tupAt;rw [upd_ne this];exact h
theorem pop_read{K:PySem.W.Frag}{Ho H:Hp}{oe fd p:Addr}{A B:Bool->Addr}{st:Bool->List Oe}{f:Bool->List Bw}{u:Bool}{S:List Oe}{o l:Int}{E:List V}{i:Int}{r:Nat}{K1:Hp->Prop}(Fo:Fr A B Ho H)(np:Ho p=none)(G:GS H oe fd A B st f)(h:st u=S++[(o,l)])(hp:H p=some (.lst E))(hE:E.length<=10)(hf:(f u).length<=100)(pn:∀ u,p≠A u/\p≠B u)(po:p≠oe/\p≠fd)
  (hi:atI [V.ref (B false),.ref (B true)] i=some (.ref (B u)))
  (k:∀ H4 a,Fr A B Ho H4->GS H4 oe fd A B (fun v=>if v=u then S else st v) (fun v=>if v=u then f u++[(o,(r:Int))] else f v)->H4 p=some (.lst (E++[.ref a]))->tupAt H4 a (o,l)->(∀ a' q,tupAt H a' q->tupAt H4 a' q)->K1 H4) :
  tyV K "list" (.ref p) H/\tyV K "list" (.ref (A u)) H/\∃ xs y,H (A u)=some (.lst xs)/\xs[xs.length - 1]? = some y/\∃ xs1,upd H (A u) (.lst xs.dropLast) p=some (.lst xs1)/\xs1.length<sizeLine ∧
   ∃ xs2 v,SqL K (upd (upd H (A u) (.lst xs.dropLast)) p (.lst (xs1++[y]))) fd xs2/\atI xs2 i=some v/\tyV K "list" v (upd (upd H (A u) (.lst xs.dropLast)) p (.lst (xs1++[y]))) ∧
    ∃ xs3 v1,SqL K (upd (upd H (A u) (.lst xs.dropLast)) p (.lst (xs1++[y]))) p xs3/\atI xs3 (-1)=some v1/\rIx K v1 (.int 0) (upd (upd H (A u) (.lst xs.dropLast)) p (.lst (xs1++[y]))) fun x H1=>
     [x,V.int r].length<=sizeLine/\∀ t,H1 t=none->rAppend v [.ref t] (upd H1 t (.tup [x,.int r])) fun _ H1=>K1 H1:=by
 obtain⟨xs,a,e,ta,G1⟩:=G.pop h
 have hp1:upd H (A u) (.lst xs) p=some (.lst E):=by rw [upd_ne (pn u).1];exact hp
 have G2:=G1.updP (ys:=E++[.ref a]) hp1 pn po
 have ta2:tupAt (upd (upd H (A u) (.lst xs)) p (.lst (E++[.ref a]))) a (o,l):=tup_upd hp1 (tup_upd e ta)
 have F2:Fr A B Ho (upd (upd H (A u) (.lst xs)) p (.lst (E++[.ref a]))):=(Fo.updA u).updP np
 have old:∀ a' q,tupAt H a' q->tupAt (upd (upd H (A u) (.lst xs)) p (.lst (E++[.ref a]))) a' q:=fun a' q z=>tup_upd hp1 (tup_upd e z)
 have dl:(xs++[V.ref a]).dropLast=xs:=by simp
 refine⟨w_tyL hp,w_tyL e,_,.ref a,e,by simp,?_⟩
 rw [dl]
 refine⟨E,hp1,small1000 (by omega),?_⟩
 have p2:upd (upd H (A u) (.lst xs)) p (.lst (E++[.ref a])) p=some (.lst (E++[.ref a])):=upd_same
 generalize upd (upd H (A u) (.lst xs)) p (.lst (E++[.ref a]))=H2 at *
 obtain⟨_,eB,_⟩:=G2.f_ u
 refine⟨_,_,SqL.of G2.fd_,hi,w_tyL eB,_,_,SqL.of p2,atI_last _ _,.inr (.inl ⟨a,_,_,_,rfl,rfl,SqT.of ta2,rfl,(by show 2<=sizeLine;decide),fun t nt=>?_⟩)⟩
 have G3:=G2.new (o:=.tup [.int o,.int r]) nt
 have t3:tupAt (upd H2 t (.tup [.int o,.int r])) t (o,(r:Int)):=upd_same
 obtain⟨ys,eY,lY,G4⟩:=G3.add u t3
 have s3:=(Same.refl H2).new (o:=.tup [.int o,.int r]) nt
 refine⟨B u,ys,_,rfl,rfl,eY,small1000 (by omega),k _ a ((F2.new nt).updB u) G4 ?_ (tup_upd eY (ta2.same s3)) fun a' q z=>tup_upd eY ((old a' q z).same s3)⟩
 rw [upd_ne (pn u).2]
 exact s3 _ _ p2
end Rm
namespace Rm
open PySem L2
theorem GS.cg{H:Hp}{oe fd:Addr}{A B:Bool->Addr}{st st':Bool->List Oe}{f f':Bool->List Bw}(G:GS H oe fd A B st f)(h:∀ u,st u=st' u)(h':∀ u,f u=f' u):GS H oe fd A B st' f':=by
 rw [<-funext h,<-funext h'];exact G
end Rm
namespace Rm
open PySem L2
theorem relab_at(X:List Oe)(g:Oe->Oe){k:Nat}{e:Oe}(h:X[k]? = some e):((X.take k).map g++X.drop k)[k]? = some e/\((X.take k).map g++X.drop k).set k (g e)=(X.take (k+1)).map g++X.drop (k+1):=by
 obtain⟨hk,he⟩:=List.getElem?_eq_some_iff.mp h
 have hl:((X.take k).map g).length=k:=by rw [List.length_map,List.length_take];omega
 have hd:X.drop k=e::X.drop (k+1):=by rw [List.drop_eq_getElem_cons hk,he]
 refine⟨?_,?_⟩
 ·rw [List.getElem?_append_right (by omega),hl,Nat.sub_self,hd];rfl
 ·rw [List.set_append_right _ _ (by omega),hl,Nat.sub_self,hd,List.set_cons_zero,List.take_add_one,h,List.map_append]
  simp
theorem pair_set{H:Hp}:∀ {as:List Addr} {S:List Bw} {i:Nat} {t:Addr} {q:Bw},Paired (tupAt H) as S->tupAt H t q->Paired (tupAt H) (as.set i t) (S.set i q)
 | [],_,_,_,_,h,_=>by cases h;exact .nil
 | a::as,_,0,t,q,h,ht=>by cases h with | cons x y=>exact .cons ht y
 | a::as,_,i+1,t,q,h,ht=>by cases h with | cons x y=>exact .cons x (pair_set y ht)
theorem GS.get{H:Hp}{oe fd:Addr}{A B:Bool->Addr}{st:Bool->List Oe}{f:Bool->List Bw}(G:GS H oe fd A B st f)(u:Bool){i:Nat}{e:Oe}(h:(st u)[i]? = some e):∃ (as:List Addr) (a:Addr),H (A u)=some (.lst (as.map V.ref))/\(as.map V.ref)[i]? = some (.ref a)/\tupAt H a e/\Paired (tupAt H) as (st u):=by
 obtain⟨as,h1,h2⟩:=G.s u
 obtain⟨as',c1,cl,bg⟩:=(G.s u).get
 rw [h1] at c1
 have ea:as.map V.ref=as'.map V.ref:=by injection c1 with c1;injection c1 with c1
 have hi:i<(as'.map V.ref).length:=by rw [List.length_map,cl];exact (List.getElem?_eq_some_iff.mp h).1
 obtain⟨a,p,e1,e2,e3⟩:=bg i _ (List.getElem?_eq_getElem hi)
 rw [h] at e2
 cases e2
 exact⟨as,a,h1,by rw [ea,List.getElem?_eq_getElem hi,e1],e3,h2⟩
theorem GS.set{H:Hp}{oe fd:Addr}{A B:Bool->Addr}{st:Bool->List Oe}{f:Bool->List Bw}(G:GS H oe fd A B st f)(u:Bool){as:List Addr}(i:Nat){t:Addr}{q:Oe}(h:Paired (tupAt H) as (st u))(ht:tupAt H t q):GS (upd H (A u) (.lst ((as.map V.ref).set i (.ref t)))) oe fd A B (fun v=>if v=u then (st u).set i q else st v) f:=by
 have:=G.setA u (pair_set (i:=i) h ht)
 rw [List.map_set] at this
 exact this
theorem ixN_nat{n i:Nat}(h:i<n):ixN n (i:Int)=some i:=by
 unfold ixN
 rw [if_pos (by omega),if_pos (by omega)];simp
end Rm
namespace Rm
open PySem L2
def aftZ(m:Int)(k:Nat):Int:=m+2 * (if k=0 then 1 else 0) - 2 * (if k=3 then 1 else 0)
def spFitting:Sp:=fun vs H Q _=>∃ oe fd A B st f,∃ (r:Nat) (d:Int),vs=[.ref oe,.int r,.int d]/\GS H oe fd A B st f/\(∀ u,(st u).length<=100)/\r<=100/\∀ (l:Addr) (ks:List Nat) (H':Hp),H l=none->Same H H'->H' l=some (.lst (ks.map fun k=>V.str (ltr k)))->(∀ k∈ks,k<4/\canB st k=true/\(r:Int)+needZ (aftZ ((st false).length+(st true).length) k)<=20)->Q (.ref l) H'
theorem abcd_sl:∀ j:Nat,j<4->(Txt.slice (Str.ofString "abcdabcd") (some (j:Int)) (some ((j:Int)+4))).cps.all (·<128)=true/\(Txt.slice (Str.ofString "abcdabcd") (some (j:Int)) (some ((j:Int)+4))).cps.toList.all (fun c=>decide (c=97\/c=98\/c=99\/c=100))=true/\(Txt.slice (Str.ofString "abcdabcd") (some (j:Int)) (some ((j:Int)+4))).length=4:=by decide +kernel
theorem ltr_of{c:Nat}(h:c=97\/c=98\/c=99\/c=100):∃ k,k<4/\(⟨#[c]⟩:Str)=ltr k:=by
 rcases h with rfl | rfl | rfl | rfl
 ·exact⟨0,by decide,by decide +kernel⟩
 ·exact⟨1,by decide,by decide +kernel⟩
 ·exact⟨2,by decide,by decide +kernel⟩
 ·exact⟨3,by decide,by decide +kernel⟩
theorem ltr_a' {k:Nat} (h:k<4):(ltr k=Str.ofString "a")=(k=0):=propext (decide_eq_decide.mp (ltr_a k h))
theorem ltr_d' {k:Nat} (h:k<4):(ltr k=Str.ofString "d")=(k=3):=propext (decide_eq_decide.mp (ltr_d k h))
end Rm
namespace Rm
open PySem L2
structure Found (H:Hp) (fd:Addr) (g:Bool->Addr) (b:Bool) (ns:List Int) (Fs:Bool->List Bw):Prop where
 at_:H fd=some (.lst [.ref (g false),.ref (g true)])
 bows:∀ u,BowsAt H (g u) (Fs u)
 perm:∀ u,(Fs u).Perm (sideBows b ns u (ns.length+1))
 ord:Ord ns
theorem Found.same{H H':Hp}{fd:Addr}{g:Bool->Addr}{b:Bool}{ns:List Int}{Fs:Bool->List Bw}(F:Found H fd g b ns Fs)(s:Same H H'):Found H' fd g b ns Fs:=⟨s _ _ F.at_,fun u=>(F.bows u).same s,F.perm,F.ord⟩
theorem Found.sum{H:Hp}{fd:Addr}{g:Bool->Addr}{b:Bool}{ns:List Int}{Fs:Bool->List Bw}(F:Found H fd g b ns Fs):(Fs false).length+(Fs true).length=ns.length+1:=by
 rw [(F.perm false).length_eq,(F.perm true).length_eq,sideBows_sum]
theorem Found.only{H:Hp}{fd:Addr}{g:Bool->Addr}{b:Bool}{ns:List Int}{Fs:Bool->List Bw}(F:Found H fd g b ns Fs){i:Nat}(hi:i<=ns.length):(Fs (b ^^ odd i)).filter (hasR (rowZ ns i))=[stepB ns i]:=by
 have:=(F.perm (b ^^ odd i)).filter (hasR (rowZ ns i))
 rw [F.ord.only hi (onSide_self b i) (.inl rfl)] at this
 exact List.perm_singleton.mp this
def spOrderOf:Sp:=fun vs H Q _=>∃ b fd g ns Fs,vs=[.str (sd b),.ref fd]/\Found H fd g b ns Fs/\∀ t H',H t=none->Same H H'->H' t=some (.tup (ns.map V.int))->Q (.ref t) H'
end Rm
namespace Rm
open PySem L2
def NC(b:Bool)(ns:List Int):Prop:=∀ u,∀ p∈sideBows b ns u (ns.length+1),∀ q∈sideBows b ns u (ns.length+1),crossZ p q=false
def spGrown:Sp:=fun vs H Q _=>∃ b dl,∃ ds:List Int,vs=[.str (sd b),.ref dl]/\H dl=some (.lst (ds.map V.int))/\ds.length<=20/\∀ fd g ns Fs H',H fd=none->Same H H'->Found H' fd g b ns Fs->NC b ns->Q (.ref fd) H'
def spDrawable:Sp:=fun vs H Q _=>∃ b dl,∃ ds:List Int,vs=[.str (sd b),.ref dl]/\H dl=some (.lst (ds.map V.int))/\ds.length<=20/\∀ m o ns H',H m=none->H o=none->Same H H'->MazeAt H' m o b ns->Ord ns->NC b ns->Q (.ref m) H'
def spEnded:Sp:=fun vs H Q _=>∃ oe fd A B b st f is,∃ r:Nat,vs=[.ref oe,.ref fd,.int r]/\GS H oe fd A B st f/\Gr b st f r is/\r+Phi st<=21/\∀ n ns Fs H',Fr A B H H'->Found H' fd B b ns Fs->NC b ns->Q (.int n) H'
end Rm
namespace Rm
open PySem L2
theorem chain_len:∀ (R:List Int) (s t:Bool),(chain s R t).length<=R.length
 | [],_,_=>Nat.zero_le _
 | [a],_,_=>Nat.zero_le _
 | a::b::R,s,t=>by
  have ih:=chain_len (b::R) (!s) t
  show ((if (!s)=t then [(min a b,max a b)] else [])++chain (!s) (b::R) t).length<=_
  rw [List.length_append,List.length_cons]
  split
  ·simp only [List.length_singleton];omega
  ·simp only [List.length_nil];omega
theorem Gr.small{b:Bool}{st:Bool->List Oe}{f:Bool->List Bw}{r:Nat}{is:List Pc}(G:Gr b st f r is):∀ u,(st u).length<=2 * r/\(f u).length<=r:=by
 have h1:=G.rows.length_eq
 rw [rngZ_len] at h1
 have h2:∀ js:List Pc,(∀ p∈js,p.rows≠[])->js.length<=(js.flatMap Pc.rows).length:=by
  intro js
  induction js with
  | nil=>intro _;exact Nat.zero_le _
  | cons p js ih=>
   intro h
   have i1:=ih fun q hq=>h q (List.mem_cons_of_mem _ hq)
   have i2:0<p.rows.length:=List.length_pos_iff.mpr (h p List.mem_cons_self)
   rw [List.flatMap_cons,List.length_append,List.length_cons];omega
 have h3:∀ (js:List Pc) u,(js.flatMap (Pc.bows u)).length<=(js.flatMap Pc.rows).length:=by
  intro js u
  induction js with
  | nil=>exact Nat.zero_le _
  | cons p js ih=>
   have:=chain_len p.rows p.s u
   rw [List.flatMap_cons,List.flatMap_cons,List.length_append,List.length_append]
   show (chain p.s p.rows u).length+_<=_
   omega
 have h4:=h2 is G.ne
 have h5:=G.many
 intro u
 refine⟨?_,?_⟩
 ·cases u<;>omega
 ·rw [(G.bows u).length_eq]
  exact Nat.le_trans (h3 is u) (Nat.le_of_eq h1)
theorem Fr.toSame{A B:Bool->Addr}{H H0 H':Hp}(n:∀ u,H (A u)=none/\H (B u)=none)(s:Same H H0)(f:Fr A B H0 H'):Same H H':=fun b o h=>
 f b o (fun u=>⟨ne_of_none h (n u).1,ne_of_none h (n u).2⟩) (s b o h)
theorem Put.many{st st':Bool->List Oe}{f f':Bool->List Bw}{r k:Nat}(P:Put st f r k st' f'):((st' false).length:Int)+(st' true).length=aftZ ((st false).length+(st true).length) k:=by
 cases P with
 | a=>simp only [List.length_append,List.length_singleton,aftZ];simp;omega
 | b h=>rw [h];simp [aftZ];omega
 | c h=>rw [h];simp [aftZ];omega
 | d h h' ne=>rw [h,h'];simp [aftZ];omega
end Rm
namespace Rm
open PySem L2
theorem pair_rev{α β:Type}{F:α->β->Prop}{l:List α}{m:List β}(h:Paired F l m):Paired F l.reverse m.reverse:=by
 induction h with
 | nil=>exact .nil
 | cons a b ih=>rw [List.reverse_cons,List.reverse_cons];exact pair_snoc ih a
theorem pair_app{α β:Type}{F:α->β->Prop}{l l':List α}{m m':List β}(h:Paired F l m)(h':Paired F l' m'):Paired F (l++l') (m++m'):=by
 induction h with
 | nil=>exact h'
 | cons a b ih=>exact .cons a ih
theorem pair_at{F:Addr->Oe->Prop}{l:List Addr}{m:List Oe}(h:Paired F l m):∀ {i:Nat} {e:Oe},m[i]? = some e->∃ a,l[i]? = some a/\F a e:=by
 induction h with
 | nil=>intro i e h;simp at h
 | cons a b ih=>
  intro i e h
  cases i with
  | zero=>cases h;exact⟨_,rfl,a⟩
  | succ i=>exact ih h
def endK(st:Bool->List Oe):Nat:=if (st false).length<tgt (labsOf st) then 1 else if tgt (labsOf st)<(st false).length then 2 else 3
theorem Gr.end_put{b:Bool}{st:Bool->List Oe}{f:Bool->List Bw}{r:Nat}{is:List Pc}(G:Gr b st f r is)(h:1<(st false).length+(st true).length):∃ st' f',Put st f r (endK st) st' f'/\Phi st'+1<=Phi st:=by
 have hl:1<(labsOf st).length:=by rw [labs_len];exact h
 have hm:=G.many
 have ht:=tgt_two (labsOf st)
 unfold endK
 by_cases h1:(st false).length<tgt (labsOf st)
 ·rw [if_pos h1]
  rcases snoc_or (st true) with e | ⟨S,o,l,e⟩
  ·rw [e] at hm h;simp at hm h;omega
  ·exact⟨_,_,.b e,Nat.le_of_eq (phi_b e hl h1)⟩
 ·rw [if_neg h1]
  by_cases h2:tgt (labsOf st)<(st false).length
  ·rw [if_pos h2]
   rcases snoc_or (st false) with e | ⟨S,o,l,e⟩
   ·rw [e] at h2;simp at h2
   ·exact⟨_,_,.c e,Nat.le_of_eq (phi_c e hl h2)⟩
  ·rw [if_neg h2]
   have h3:(st false).length=tgt (labsOf st):=by omega
   rcases snoc_or (st false) with e | ⟨S,o,l,e⟩
   ·rw [e] at h3;simp at h3;omega
   ·rcases snoc_or (st true) with e' | ⟨S',o',l',e'⟩
    ·rw [e'] at hm h;simp at hm h;omega
    ·refine⟨_,_,.d e e' fun z=>?_,G.phi_d e e' hl h3⟩
     obtain⟨x,y,ex,ey,ne⟩:=G.tgt_ne hl
     have hS:(S++[(o,l)]).length=tgt (labsOf st):=by rw [<-e];exact h3
     simp only [List.length_append,List.length_singleton] at hS
     have hL:labsOf st=S.map (·.2)++(l::l'::(S'.reverse).map (·.2)):=by
      unfold labsOf
      rw [e,e']
      simp
     rw [hL] at ex ey
     have i1:tgt (S.map (·.2)++(l::l'::(S'.reverse).map (·.2)))=S.length+1:=by rw [<-hL];exact hS.symm
     rw [i1,List.getElem?_append_right (by simp)] at ex
     rw [i1,List.getElem?_append_right (by simp only [List.length_map];omega)] at ey
     simp at ex ey
     exact ne (ex.symm.trans (z.trans ey))
end Rm
namespace Rm
open PySem L2
def spBowsL:Sp:=fun vs H Q _=>∃ m o b ns,vs=[.ref m]/\MazeAt H m o b ns/\ns.length<=40/\∀ fd (g:Bool->Addr) H',H fd=none->(∀ u,H (g u)=none)->Same H H'->H' fd=some (.lst [.ref (g false),.ref (g true)])->(∀ u,BowsAt H' (g u) (sideBows b ns u (ns.length+1)))->g false≠g true->Q (.ref fd) H'
end Rm
namespace L2
open PySem PySem.Spec PyProof.Rows
section
variable {X:Cx} {pins:List (Addr×Obj)} {σ:St} {H:Hp} {s:Shared} {h':Heap}
theorem Inv.turnNew{fp:List Addr}{p:Addr}{o:HO}{t':Nat}(I:Inv X pins σ H s)(hf:∀ b∈fp,FpOk X pins H b)(k:∀ b u,b∉fp->s.heap.get? b=some u->h'.get? b=some u)(hp:s.heap.objs.size<=p)
  (new:ObjOk X.prog X.w (upd H p o) h' p o):Inv X pins σ (upd H p o) { s with heap:=h',toks:=t' }:=by
 have hn:H p=none:=I.hok.fresh hp
 have nfp:∀ b u,H b=some u->b∉fp:=fun b u e z=>by rw [(hf b z).1] at e;cases e
 refine I.step (g':=s.gens) (d':=s.drawn) (ch:=fp) (fun b hb=>?_) (fun b u _ _ hc e _=>k b u hc e) (fun b u _ _ hc e _=>⟨u.slots,k b u hc e⟩)
  (fun b u _ e n=>by rw [upd_ne (Nat.ne_of_lt (Nat.lt_of_lt_of_le (Heap.lt_size e) hp))];exact n) (fun b u hc e=>⟨u,k b u hc e⟩) (fun b xs e=>by rw [upd_ne (ne_of_none e hn)];exact e)
  (fun b u xs e=>by rw [upd_ne (ne_of_none e hn)];exact e) (fun b ps e=>⟨#[],by rw [upd_ne (ne_of_none e hn),e];simp⟩) (fun m hm=>?_) (fun b u e=>?_) I.bare
 ·obtain⟨_,f1,_,f3,f4,f5⟩:=hf b hb
  exact⟨f3,f1,f4,f5⟩
 ·obtain⟨ob,es,ep,ho,r⟩:=hm
  exact⟨ob,es,ep,k _ ob (fun z=>(hf _ z).2.1 rfl) ho,r⟩
 ·by_cases hb:b=p
  ·subst hb;rw [upd_same] at e;cases e;exact new
  ·rw [upd_ne hb] at e
   refine (I.hok b u e).stay (fun c v hc q=>k c v ?_ q) (fun c q=>by rw [upd_ne (ne_of_none q hn)];exact q) fun c xs q=>by rw [upd_ne (ne_of_none q hn)];exact q
   rcases hc with z | z
   ·rw [z];exact nfp b u e
   ·exact nfp c _ z
end
def Its(x:Str):It:=⟨fun i _=>i<x.cps.size,fun i H v H'=>H'=H/\∃ c,x.cps[i]? = some c/\v=.str ⟨#[c]⟩,fun i _=>x.cps.size<=i⟩
theorem turn_str {P : Program} {w : World} {K : PySem.W.Frag} {tg : Expr} (it : Addr) (x : Str) (t : Tok) : Turn P w K tg (Its x) [it] it (fun i h => h.IsStrIter it "str_ascii_iterator" x t i) where
  mem := by simp
  obj := fun i h st b hb => by
    have e : b = it := by simpa using hb
    subst e
    obtain ⟨o, e, c, d⟩ := st
    exact ⟨o, e, fun v z => by rw [d] at z; cases z⟩
  keep := fun i h h' st k => by
    obtain ⟨o, e, r⟩ := st
    exact ⟨o, k it (by simp) o e, r⟩
  item := by
    intro X hP hw hK hc i pins s σ H E I hf st hg
    subst hP hw hK
    obtain ⟨f0, f1, f2, f3, f4, f5⟩ := hf it (by simp)
    have hx : x.cps[i]? = some x.cps[i] := Array.getElem?_eq_getElem hg
    refine wpAny_pyNext_ascii_item st hx fun h' st' sb => ?_
    have I1 : Inv X pins σ H { s with heap := h', toks := s.toks + 1 } := I.turned (t' := s.toks + 1) (fun b o hb e => (sb.2 b hb).trans e) f0 f1 f3 f4 f5
    obtain ⟨o, e, c, d⟩ := id st'
    exact ⟨_, rfl, go_of (s := { s with heap := h', toks := s.toks + 1 }) e c d (by decide) ⟨.str ⟨#[x.cps[i]]⟩, H, I1, ⟨_, rfl⟩, ⟨rfl, _, hx, rfl⟩, st', fun b hb => (hf b hb).1⟩⟩
  done := by
    intro X hP hw hK hc i pins s σ H E I hf st hg
    subst hP hw hK
    obtain ⟨f0, f1, f2, f3, f4, f5⟩ := hf it (by simp)
    exact wpAny_pyNext_ascii_end (I.ok.hd hc) st (Array.getElem?_eq_none hg) fun h' eb => ⟨rfl, I.turned (t' := s.toks) (fun b o hb e => eb b o hb e) f0 f1 f3 f4 f5⟩
  self := fun _ _ _ _ _ st h => wpAny_pyIter_striter_ascii st h
def iStr(tl:TE):TI:=fun σ H R=>tl σ H fun x H1=>∃ z,x=.str z/\z.cps.all (·<128)=true/\R (Its z) H1
theorem pi_str{X:Cx}{tg l:Expr}{tl:TE}(hl:PE X l tl):PI X tg l (iStr tl):=by
 intro pins s σ H R I h
 refine thn (hl pins s σ H _ I h) fun v s1 ⟨x,H1,I1,r1,z,e,ha,q⟩=>?_
 subst e
 obtain⟨t,rfl⟩:=r1
 refine wpAny_pyIter_ascii ha ?_
 exact⟨s1.heap.objs.size,[s1.heap.objs.size],_,_,H1,rfl,I1.kept (t':=s1.toks) fun b o e=>Heap.get?_push_of_some _ e,turn_str _ z t,⟨_,Heap.get?_push_size _ rfl,rfl,rfl⟩,
  fun b hb=>by
   have e:b=s1.heap.objs.size:=by simpa using hb
   subst e
   exact I1.fpOk (Nat.le_refl _) (I1.hok.fresh (Nat.le_refl _)),q⟩
section
variable {σ:St} {H:Hp} {D:Ends}
theorem w_forS{tl:TE}{g:TG}{tb:TS}:tFor (iStr tl) g tb D σ H=tl σ H fun x H1=>∃ z,x=.str z/\z.cps.all (·<128)=true/\ForJ (Its z) g tb D σ H1:=rfl
theorem w_exS{a:Str}{q:Str->Prop}:(∃ b,V.str a=.str b/\q b)=q a:=propext ⟨fun ⟨_,e,h⟩=>by cases e;exact h,fun h=>⟨a,rfl,h⟩⟩
theorem for_str{x:Str}{g:TG}{tb:TS}(Pv:Nat->St->Hp->Prop)(h0:Pv 0 σ H)
  (hs:∀ i c σ H,x.cps[i]? = some c->Pv i σ H->g (.str ⟨#[c]⟩) σ H fun σ2 H2=>tb { D with nx:=Pv (i+1),ct:=Pv (i+1),bk:=D.nx } σ2 H2) (hd:∀ σ H,Pv x.cps.size σ H->D.nx σ H):ForJ (Its x) g tb D σ H:=by
 refine⟨fun i m σ H=>m+i=x.cps.size/\Pv i σ H,⟨x.cps.size,rfl,h0⟩,?_⟩
 rintro i m σ H ⟨hm,hp⟩
 by_cases hi:i<x.cps.size
 ·refine .inr ⟨hi,Pv (i+1),fun σ' H' h=>⟨m - 1,by omega,by omega,h⟩,?_⟩
  rintro v H' ⟨rfl,c,hc,rfl⟩
  exact hs i c σ H' hc hp
 ·have e:i=x.cps.size:=by omega
  subst e
  exact .inl ⟨Nat.le_refl _,hd σ H hp⟩
end
end L2
namespace L2
open PySem PySem.Spec PyProof.Rows
theorem nolen_rv:typeLookup (.type "list_reverseiterator") "__len__"=pure none:=by rw [typeLookup_type,builtinLookup_eq_fast];kernel_rfl
theorem hint_rv:typeLookup (.type "list_reverseiterator") "__length_hint__"=pure (some (.builtin "list_reverseiterator.__length_hint__")):=by rw [typeLookup_type,builtinLookup_eq_fast];kernel_rfl
section
variable {prog:Program} {w:World} {A:Around} {E:Value->Shared->Prop} {s:Shared}
theorem hint_rev{I l:Addr}{i:Int}{Q:Bool->Shared->Prop}(hit:s.heap.IsRevIter I l i)(h:Q false s):wpAny (model prog w) A (Builtin.List.listLengthHint (.ref I)) Q E s:=by
 unfold Builtin.List.listLengthHint
 refine wpAny_bind (wpAny_specialOf hit.typeIs nolen_rv ?_)
 show wpAny _ A (specialOf (Value.ref I) (Str.ofString "__length_hint__")>>=_) _ _ _
 refine wpAny_bind (wpAny_specialOf hit.typeIs hint_rv ?_)
 generalize hid:("list_reverseiterator.__length_hint__":String)=id0
 wp_delta
 rw [show splitId id0=some ("list_reverseiterator","__length_hint__") from by subst hid;decide +kernel]
 subst hid
 refine wpAny_bind (wpAny_isInstance (b:=true) hit.typeIs (by rw [isSubtype_type];kernel_rfl) ?_)
 refine wpAny_pure ?_
 exact h
theorem extend_rev{R:Result->Shared->Prop}{l I:Addr}{items:Array Value}(hh:A.handled=none)(hit:s.heap.IsRevIter I l ((items.size:Int) - 1))(hl:s.heap.IsList l items)(hne:l≠I)(hlen:items.size<=1000)(S:Addr)(res:Value)(c₀:Nat)
  (hS:s.heap.get? S=some { cls:=.type "list",data:=.seq #[] c₀ }) (hSI:S≠I) (hSl:S≠l)
  (hR:∀ h' tk acc' c',(∀ b o,b≠S->b≠I->s.heap.get? b=some o->h'.get? b=some o)->h'.get? S=some { cls:=.type "list",dict:=none,data:=.seq acc' c',slots:=#[] } →
   ItemsOf (fun i v=>items[items.size - 1 - i]? = some v) acc' items.size->R (.ok (.ret res)) { s with heap:=h',toks:=tk }) :
  wpAny (model prog w) A.in1 (Builtin.List.listExtendWith (.ref S) (.ref I) res)
   (fun fin s'=>match fin with | .done f=>R (.ok f) s' | .again c'=>c'.quiet=true/\codeAny (model prog w) A c' R s') (fun e s'=>R (.error e) s') s:=by
 have hSf:S∉[I,l]:=fun hm=>by
  rcases List.mem_cons.mp hm with e | e
  ·exact hSI e
  ·exact hSl (List.mem_singleton.mp e)
 have W:=(Walks.listRev (prog:=prog) (w:=w) (A:=A.in1) hh I l hne items).toS
 have h1:Builtin.List.listSameRef (.ref S) (.ref I)=false:=by simp [Builtin.List.listSameRef,hSI]
 have h2:(Value.type "list_reverseiterator"==Value.type "list")=false:=by decide
 have h3:(Value.type "list_reverseiterator"==Value.type "tuple")=false:=by decide
 have hz:((items.size:Int) - 1 - ((0:Nat):Int))=(items.size:Int) - 1:=by simp
 unfold Builtin.List.listExtendWith
 refine wpAny_bind (wpAny_typeOf hit.typeIs ?_)
 simp only [h1,h2,h3,Bool.or_false,Bool.false_eq_true,if_false]
 refine wpAny_bind (wpAny_pyIter_revIter hit ?_)
 refine wpAny_bind (wpAny_holding (hint_rev hit ?_))
 refine wpAny_pure ⟨plainId_quiet F.plain_extend_loop _,?_⟩
 refine codeAny_extend_loopS W (Nat.le_of_lt (small1000 hlen)) S hSf res items.size 0 _ #[] c₀ rfl (Nat.zero_le _) ⟨Nat.zero_le _,by rw [hz];exact hit,hl⟩ hS (ItemsOf.nil _) fun s' acc' c' hm hS' hacc=>?_
 rw [Moved.eq_with hm]
 refine hR s'.heap s'.toks acc' c' (fun b o hb hb2 e=>hm.heap b o (fun hmem=>?_) e) hS' hacc
 rcases List.mem_cons.mp hmem with e' | hmem
 ·exact hb e'
 ·exact hb2 (List.mem_singleton.mp hmem)
theorem init_rev{R:Result->Shared->Prop}{l I:Addr}{items:Array Value}(hh:A.handled=none)(hit:s.heap.IsRevIter I l ((items.size:Int) - 1))(hl:s.heap.IsList l items)(hne:l≠I)(hlen:items.size<=1000)(S:Addr)
  (hS:s.heap.get? S=some { cls:=.type "list",data:=.seq #[] }) (hSI:S≠I) (hSl:S≠l)
  (hR:∀ h' tk acc' c',(∀ b o,b≠S->b≠I->s.heap.get? b=some o->h'.get? b=some o)->h'.get? S=some { cls:=.type "list",dict:=none,data:=.seq acc' c',slots:=#[] } →
   ItemsOf (fun i v=>items[items.size - 1 - i]? = some v) acc' items.size->R (.ok (.ret .none)) { s with heap:=h',toks:=tk }) :
  wpAny (model prog w) A.in1 (Builtin.«list.__init__» ⟨[.ref S,.ref I],[]⟩)
   (fun fin s'=>match fin with | .done f=>R (.ok f) s' | .again c'=>c'.quiet=true/\codeAny (model prog w) A c' R s') (fun e s'=>R (.error e) s') s:=by
 show wpAny _ _ (do let old <-Builtin.List.listItems (.ref S);Builtin.List.listUpdate (.ref S) (fun _=>#[]);letGo old.toList.reverse;Builtin.List.listExtendWith (.ref S) (.ref I) .none) _ _ s
 refine wpAny_bind ?_
 unfold Builtin.List.listItems
 refine wpAny_bind (wpAny_seqItems hS rfl (wpAny_pure ?_))
 show wpAny _ _ (updateSeq S (fun _=>#[])>>=fun _=>letGo (#[]:Array Value).toList.reverse>>=fun _=>Builtin.List.listExtendWith (.ref S) (.ref I) .none) _ _ s
 refine wpAny_bind (wpAny_updateSeq hS rfl ?_)
 have hS₂:=Heap.get?_update_self (Obj.mapSeq (fun _=>(#[]:Array Value))) hS rfl
 have oth:∀ b o,b≠S->s.heap.get? b=some o->(s.heap.update S (Obj.mapSeq (fun _=>(#[]:Array Value)))).get? b=some o:=
  fun b o hb e=>(Heap.get?_update_other _ _ (Ne.symm hb)).trans e
 refine wpAny_bind (wpAny_letGo ?_)
 refine extend_rev hh (hit.at fun o e=>oth I o hSI.symm e) (hl.at fun o e=>oth l o hSl.symm e) hne hlen S .none _ hS₂ hSI hSl fun h' tk acc' c' hk hS' hacc=>?_
 exact hR h' tk acc' c' (fun b o hb hb2 e=>hk b o hb hb2 (oth b o hb e)) hS' hacc
theorem call_list_rev{Q:Value->Shared->Prop}{l I:Addr}{items:Array Value}(hh:A.handled=none)(hit:s.heap.IsRevIter I l ((items.size:Int) - 1))(hl:s.heap.IsList l items)(hne:l≠I)(hlen:items.size<=1000)
  (hQ:∀ h' tk acc' c',(∀ b o,b≠I->s.heap.get? b=some o->h'.get? b=some o) →
   h'.get? s.heap.objs.size=some { cls:=.type "list",dict:=none,data:=.seq acc' c',slots:=#[] }->ItemsOf (fun i v=>items[items.size - 1 - i]? = some v) acc' items.size->Q (.ref s.heap.objs.size) { s with heap:=h',toks:=tk }) :
  wpAny (model prog w) A (call (.type "list") [.ref I]) Q E s:=by
 refine callType_codes (Q₁:=fun obj s₁=>obj=.ref s.heap.objs.size/\s₁={ s with heap:=s.heap.push { cls:=.type "list",data:=.seq #[] } }) F.called_list (F.typeCall_list_1 _) F.entry_list_init
  (code_list_new _ ⟨rfl,rfl⟩) fun obj s₁ h₁=>?_
 obtain⟨rfl,rfl⟩:=h₁
 have hS:(s.heap.push { cls:=.type "list",data:=.seq #[] }).get? s.heap.objs.size=some { cls:=.type "list",data:=.seq #[] }:=Heap.get?_push_size _ rfl
 obtain⟨o1,e1,_⟩:=id hit
 obtain⟨o2,e2,_⟩:=id hl
 have n1:s.heap.objs.size≠I:=(Nat.ne_of_lt (Heap.lt_size e1)).symm
 have n2:s.heap.objs.size≠l:=(Nat.ne_of_lt (Heap.lt_size e2)).symm
 refine⟨⟨_,hS,rfl⟩,F.args_list_init_2 _ _,init_rev (A:=A.in1) hh (hit.at fun o e=>Heap.get?_push_of_some _ e) (hl.at fun o e=>Heap.get?_push_of_some _ e) hne hlen _ hS n1 n2 fun h' tk acc' c' hk hS' hacc=>?_⟩
 exact⟨rfl,hQ h' tk acc' c' (fun b o hb e=>hk b o (Nat.ne_of_lt (Heap.lt_size e)) hb (Heap.get?_push_of_some _ e)) hS' hacc⟩
end
def tRev(te:TE):TE:=fun σ H Q=>te σ H fun x H1=>∃ (a:Addr) (xs:List V),x=.ref a/\H1 a=some (.lst xs)/\xs.length<=1000/\∀ l,H1 l=none->Q (.ref l) (upd H1 l (.lst xs.reverse))
theorem w_rev{te:TE}{σ:St}{H:Hp}{Q:VK}:tRev te σ H Q=te σ H fun x H1=>∃ (a:Addr) (xs:List V),x=.ref a/\H1 a=some (.lst xs)/\xs.length<=1000/\∀ l,H1 l=none->Q (.ref l) (upd H1 l (.lst xs.reverse)):=rfl
theorem vals_rel{xs:List V}{us:List Value}(r:Vals xs us):∀ {i:Nat} {x:V} {u:Value},xs[i]? = some x->us[i]? = some u->RelV x u:=by
 induction r with
 | nil=>intro i x u h;simp at h
 | cons a b ih=>
  intro i x u h h'
  cases i with
  | zero=>cases h;cases h';exact a
  | succ i=>exact ih h h'
theorem vals_of{xs:List V}{us:List Value}(hl:xs.length=us.length)(h:∀ (i:Nat) x u,xs[i]? = some x->us[i]? = some u->RelV x u):Vals xs us:=by
 induction xs generalizing us with
 | nil=>cases us with | nil=>exact .nil | cons a b=>simp at hl
 | cons x xs ih=>
  cases us with
  | nil=>simp at hl
  | cons u us=>exact .cons (h 0 x u rfl rfl) (ih (by simpa using hl) fun i y v h1 h2=>h (i+1) y v h1 h2)
theorem pe_listrev {X:Cx} {e:Expr} {te:TE} {p p2 pos2 pos:Pos} (hc:X.calm=true) (hgl:Gl X "list") (hml:X.mg "list"=none) (hgr:Gl X "reversed") (hmr:X.mg "reversed"=none) (he:PE X e te)
  (hs:starEach [.Call (.Name "reversed" p2) [e] [] pos2] X.env=[(false,eval (.Call (.Name "reversed" p2) [e] [] pos2) X.env)]:=by rfl) (hs2:starEach [e] X.env=[(false,eval e X.env)]:=by rfl) :
  PE X (.Call (.Name "list" p) [.Call (.Name "reversed" p2) [e] [] pos2] [] pos) (tRev te):=by
 intro pins s σ H Q I h
 refine wpAny_Call_Name_kw (ld_blt I hgl hml boot_list ?_)
 refine PyProof.Rows.callWith_type1 ?_ hs rfl
 rw [hs]
 show wpAny _ _ (spliced ((false,eval (.Call (.Name "reversed" p2) [e] [] pos2) X.env)::[])) _ _ s
 refine Calls.spliced_cons (wpAny_Call_Name_kw (ld_blt I hgr hmr boot_reversed (PyProof.Rows.callWith_type1 ?_ hs2 rfl)))
 rw [hs2]
 show wpAny _ _ (spliced ((false,eval e X.env)::[])) _ _ s
 refine Calls.spliced_cons (thn (he pins s σ H _ I h) fun u s1 ⟨x,H1,I1,r1,a,xs,ex,hx,hle,q⟩=>?_)
 subst ex
 cases r1
 obtain⟨hz,its,n,rv,hlen,ho⟩:=I1.lstM hx
 have hL:s1.heap.IsList a its.toArray:=⟨_,ho,rfl,n,rfl⟩
 have hsz:its.toArray.size=its.length:=by simp
 have hal:=Heap.lt_size ho
 refine Calls.spliced_nil (call_reversed_list hL (Calls.spliced_nil ?_))
 refine call_list_rev (I:=s1.heap.objs.size) (l:=a) (items:=its.toArray) (I1.ok.hd hc) ⟨_,Heap.get?_push_size _ rfl,rfl,rfl⟩ (hL.at fun o e=>Heap.get?_push_of_some _ e) (Nat.ne_of_lt hal) (by rw [hsz];omega) fun h' tk acc' c' kp e' hit=>?_
 have sz:(s1.heap.push (revObj a ((its.toArray.size:Int) - 1))).objs.size=s1.heap.objs.size+1:=Heap.size_push _ _
 have hv:Vals xs.reverse acc'.toList:=by
  obtain⟨a1,a2⟩:=hit
  rw [hsz] at a1 a2
  have al:acc'.toList.length=its.length:=by rw [<-a1];simp
  refine vals_of (by rw [List.length_reverse,hlen,al]) fun i x u h1 h2=>?_
  have hu:acc'[i]? = some u:=by simpa using h2
  have h3:=a2 i u hu
  have hi:i<its.length:=by rw [<-a1];exact (Array.getElem?_eq_some_iff.mp hu).1
  rw [List.getElem?_reverse (by rw [hlen];exact hi),hlen] at h1
  have h4:its[its.length - 1 - i]? = some u:=by simpa using h3
  exact vals_rel rv h1 h4
 refine⟨.ref _,_,I1.laid (h':=h') (t':=tk) (fun b o e=>kp b o (Nat.ne_of_lt (Heap.lt_size e)) (Heap.get?_push_of_some _ e)) (by rw [sz];exact Nat.le_succ _) (show ObjOk X.prog X.w _ h' _ (.lst _) from ⟨by rw [List.length_reverse];exact hz,acc'.toList,c',hv,by simpa using e'⟩),rfl,q _ (I1.hok.fresh (by rw [sz];exact Nat.le_succ _))⟩
end L2
namespace L2
open PySem PySem.Spec PyProof.Rows
structure QE (X:Cx) (e:Expr) (t:TE):Prop where
 h:PE X e t
structure QT (X:Cx) (e:Expr) (t:TT):Prop where
 h:PT X e t
structure QA (X:Cx) (es:List Expr) (t:TA):Prop where
 h:PA X es t
structure QS (X:Cx) (st:Stmt) (t:TS):Prop where
 h:PS X st t
structure QSs (X:Cx) (sts:List Stmt) (t:TS):Prop where
 h:PSs X sts t
structure QG (X:Cx) (e:Expr) (t:TG):Prop where
 h:PG X e t
structure QGs (X:Cx) (es:List Expr) (t:TGs):Prop where
 h:PGs X es t
structure QF (X:Cx) (es:List Expr) (t:TT):Prop where
 h:PF X es t
structure QW (X:Cx) (e:Expr) (t:TT):Prop where
 h:PW X e t
structure QO (X:Cx) (e:Option Expr) (t:TO):Prop where
 h:PO X e t
structure QPPs (X:Cx) (pos:Pos) (keys:List (Option Expr)) (values:List Expr) (trs:List (TE×TE)):Prop where
 h:PPs X pos keys values trs
structure QI (X:Cx) (tg iter:Expr) (t:TI):Prop where
 h:PI X tg iter t
theorem QW.pt{X:Cx}{e:Expr}{t:TT}(h:QW X e t):QT X e t:=⟨h.h.pt⟩
section
variable {X:Cx}
theorem qpe_int{i j pos}:QE X (.Constant (.int i) j pos) (tC (.int i)):=⟨pe_int ⟩
end
section
variable {X:Cx}
theorem qpe_bl{b j pos}:QE X (.Constant (.bool b) j pos) (tC (.bl b)):=⟨pe_bl ⟩
end
section
variable {X:Cx}
theorem qpe_non{j pos}:QE X (.Constant .none j pos) (tC .non):=⟨pe_non ⟩
end
section
variable {X:Cx}
theorem qpe_str{x j pos}:QE X (.Constant (.str x) j pos) (tC (.str x)):=⟨pe_str ⟩
end
section
variable {X:Cx}
theorem qpe_bltn {x:Str} {v:V} {u:Value} {pos:Pos} (hg:Gl X x) (hm:X.mg x=none) (hv:bootBuiltins x=some u) (r:RelV v u) (hn:x≠"__name__":=by decide) (hd:(x==("__debug__":Str))=false:=by decide):QE X (.Name x pos) (tC v):=⟨pe_bltn hg hm hv r hn hd⟩
end
section
variable {X:Cx} {a b:Expr} {ta tb:TE} {pos:Pos}
theorem qpt_val{e:Expr}{t:TE}(h:QE X e t)(he:∀ whole,isTrue e X.env whole=(do let v <-whole;standAt e.pos;holding [v] (truthy v)):=by intro _;rfl):QT X e (tB t):=⟨pt_val h.h he⟩
end
section
variable {X:Cx} {a b:Expr} {ta tb:TE} {pos:Pos} {tA tB':TT} {rest:List Expr}
theorem qpw_and1(ha:QT X a tA):QW X (.BoolOp .And [a] pos) tA:=⟨pw_and1 ha.h⟩
end
section
variable {X:Cx} {a b:Expr} {ta tb:TE} {pos:Pos} {tA tB':TT} {rest:List Expr}
theorem qpw_or1(ha:QT X a tA):QW X (.BoolOp .Or [a] pos) tA:=⟨pw_or1 ha.h⟩
end
section
variable {X:Cx} {a b:Expr} {ta tb:TE} {pos:Pos} {tA tB':TT} {rest:List Expr}
theorem qpw_and(ha:QT X a tA)(hb:QW X (.BoolOp .And (b::rest) pos) tB'):QW X (.BoolOp .And (a::b::rest) pos) (tAnd tA tB'):=⟨pw_and ha.h hb.h⟩
end
section
variable {X:Cx} {a b:Expr} {ta tb:TE} {pos:Pos} {tA tB':TT} {rest:List Expr}
theorem qpw_or(ha:QT X a tA)(hb:QW X (.BoolOp .Or (b::rest) pos) tB'):QW X (.BoolOp .Or (a::b::rest) pos) (tOr tA tB'):=⟨pw_or ha.h hb.h⟩
end
section
variable {X:Cx} {a b:Expr} {ta tb:TE} {pos:Pos} {tA tB':TT} {rest:List Expr}
theorem qpt_not(ha:QT X a tA):QT X (.UnaryOp .Not a pos) (tNot tA):=⟨pt_not ha.h⟩
end
section
variable {X:Cx} {a b:Expr} {ta tb:TE} {pos:Pos} {tA tB':TT} {rest:List Expr}
theorem qpe_one{op}{t:TE}(h:QE X a t):QE X (.BoolOp op [a] pos) t:=⟨pe_one h.h⟩
end
section
variable {X:Cx} {a b:Expr} {ta tb:TE} {pos:Pos} {tA tB':TT} {rest:List Expr}
theorem qpe_and(ha:QE X a ta)(hb:QE X (.BoolOp .And (b::rest) pos) tb):QE X (.BoolOp .And (a::b::rest) pos) (tAndV ta tb):=⟨pe_and ha.h hb.h⟩
end
section
variable {X:Cx} {a b:Expr} {ta tb:TE} {pos:Pos} {tA tB':TT} {rest:List Expr}
theorem qpe_or(ha:QE X a ta)(hb:QE X (.BoolOp .Or (b::rest) pos) tb):QE X (.BoolOp .Or (a::b::rest) pos) (tOrV ta tb):=⟨pe_or ha.h hb.h⟩
end
section
variable {X:Cx} {a b:Expr} {ta tb:TE} {pos:Pos} {tA tB':TT} {rest:List Expr}
theorem qpe_not(ha:QE X a ta):QE X (.UnaryOp .Not a pos) (tNotV ta):=⟨pe_not ha.h⟩
end
section
variable {X:Cx} {a b:Expr} {ta tb:TE} {pos:Pos} {tA tB':TT} {rest:List Expr}
theorem qpe_ifExp{c:Expr}(hc:QT X c tA)(ha:QE X a ta)(hb:QE X b tb):QE X (.IfExp c a b pos) (tIf tA ta tb):=⟨pe_ifExp hc.h ha.h hb.h⟩
end
section
variable {X:Cx} {st:Stmt} {rest:List Stmt} {t u:TS} {e:Expr} {te:TE} {pos:Pos}
theorem qpss_nil  : QSs X [] tNext:=⟨pss_nil ⟩
end
section
variable {X:Cx} {st:Stmt} {rest:List Stmt} {t u:TS} {e:Expr} {te:TE} {pos:Pos}
theorem qpss_cons(h1:QS X st t)(h2:QSs X rest u):QSs X (st::rest) (tSeq t u):=⟨pss_cons h1.h h2.h⟩
end
section
variable {X:Cx} {st:Stmt} {rest:List Stmt} {t u:TS} {e:Expr} {te:TE} {pos:Pos}
theorem qpss_one(h1:QS X st t):QSs X [st] t:=⟨pss_one h1.h⟩
end
section
variable {X:Cx} {st:Stmt} {rest:List Stmt} {t u:TS} {e:Expr} {te:TE} {pos:Pos}
theorem qps_break  : QS X (.Break pos) tBreak:=⟨ps_break ⟩
end
section
variable {X:Cx} {st:Stmt} {rest:List Stmt} {t u:TS} {e:Expr} {te:TE} {pos:Pos}
theorem qps_expr(he:QE X e te)(hs:swapsWith e none pos.line X.env=pure false:=by rfl):QS X (.Expr e pos) (tDrop te):=⟨ps_expr he.h hs⟩
end
section
variable {X:Cx} {st:Stmt} {rest:List Stmt} {t u:TS} {e:Expr} {te:TE} {pos:Pos}
theorem qps_ret(he:QE X e te):QS X (.Return (some e) pos) (tRet te):=⟨ps_ret he.h⟩
end
section
variable {X:Cx} {st:Stmt} {rest:List Stmt} {t u:TS} {e:Expr} {te:TE} {pos:Pos}
theorem qps_if{c:Expr}{a b:List Stmt}{tc:TT}(hc:QT X c tc)(ha:QSs X a t)(hb:QSs X b u):QS X (.If c a b pos) (tIfS tc t u):=⟨ps_if hc.h ha.h hb.h⟩
end
section
variable {X:Cx} {st:Stmt} {rest:List Stmt} {t u:TS} {e:Expr} {te:TE} {pos:Pos}
theorem qps_never  : QS X st tNever:=⟨ps_never ⟩
end
section
variable {X:Cx} {pos:Pos}
theorem qpg_name{i:Nat}{x:Str}(hN:X.N.Nodup)(hi:X.N[i]? = some x)(hx:Loc X.env.scope x)(hf:X.fn x=true\/X.env.scope.names.lookup x=some .local:=by first | exact .inl rfl | exact .inr rfl | assumption):QG X (.Name x pos) (gName i):=⟨pg_name hN hi hx hf⟩
end
section
variable {X:Cx} {pos:Pos}
theorem qpgs_nil  : QGs X [] gNil:=⟨pgs_nil ⟩
end
section
variable {X:Cx} {pos:Pos}
theorem qpgs_cons{e:Expr}{es:List Expr}{t:TG}{u:TGs}(h1:QG X e t)(h2:QGs X es u)(hs:(assignEach (e::es) X.env).map (·.2)=assign e X.env::(assignEach es X.env).map (·.2):=by rfl):QGs X (e::es) (gCons t u):=⟨pgs_cons h1.h h2.h hs⟩
end
section
variable {X:Cx} {pos:Pos}
theorem qpg_tup{es:List Expr}{k:Nat}{t:TGs}{n:Nat}(hc:X.calm=true)(h:QGs X es t)(hn:(assignEach es X.env).length=n:=by rfl)(hst:(assignEach es X.env).findIdx? (·.1)=none:=by rfl):QG X (.Tuple es k pos) (gTup X.K n t):=⟨pg_tup hc h.h hn hst⟩
end
section
variable {X:Cx} {pos:Pos}
theorem qpg_sub{o i:Expr}{to ti:TE}{t:TSet}(ho:QE X o to)(hi:QE X i ti)(hs:PSet X t)(ha:∀ v,assign (.Subscript o i pos) X.env v=(do
   let ov <-holding [v] (eval o X.env)
   let iv <-holding [v,ov] (eval i X.env)
   standAt pos
   holding [v,ov,iv] (setItem ov iv v)
   release [v,ov,iv] []):=by intro _;rfl):QG X (.Subscript o i pos) (gSub to ti t):=⟨pg_sub ho.h hi.h hs ha⟩
end
section
variable {X:Cx} {pos:Pos}
theorem qps_asg{tg e:Expr}{te:TE}{g:TG}(he:QE X e te)(hg:QG X tg g)(hs:swapsWithSole [tg] e pos.line X.env=pure false:=by rfl)(hw:swappedStores [tg] e X.env=pure none:=by rfl)(h1:(assignEach [tg] X.env).map (·.2)=[assign tg X.env]:=by rfl):QS X (.Assign [tg] e pos) (tAsg te g):=⟨ps_asg he.h hg.h hs hw h1⟩
end
section
variable {X:Cx} {pos:Pos}
theorem qps_set{i:Nat}{x:Str}{e:Expr}{te:TE}{pos':Pos}(hN:X.N.Nodup)(hi:X.N[i]? = some x)(hx:Loc X.env.scope x)(he:QE X e te)(hs:swapsWith e (some (.Name x pos')) pos.line X.env=pure false:=by rfl)(hf:X.fn x=true\/X.env.scope.names.lookup x=some .local:=by first | exact .inl rfl | exact .inr rfl | assumption):QS X (.Assign [.Name x pos'] e pos) (tAsg te (gName i)):=⟨ps_set hN hi hx he.h hs hf⟩
end
section
variable {X:Cx} {pos:Pos}
theorem qps_while{c:Expr}{body:List Stmt}{tc:TT}{tb:TS}(hp:PassesOwn (model X.prog X.w) X.A X.env X.xe)(hc:QT X c tc)(hb:QSs X body tb):QS X (.While c body [] pos) (tWhile tc tb):=⟨ps_while hp hc.h hb.h⟩
end
section
variable {X:Cx} {tg:Expr}
theorem qpi_list{l:Expr}{tl:TE}(hl:QE X l tl):QI X tg l (iList X.K tl):=⟨pi_list hl.h⟩
end
section
variable {X:Cx} {tg:Expr}
theorem qpi_tup{l:Expr}{tl:TE}(hl:QE X l tl):QI X tg l (iTup X.K tl):=⟨pi_tup hl.h⟩
end
section
variable {X:Cx} {tg:Expr}
theorem qpi_range1 {a:Expr} {ta:TA} {p pos:Pos} (hg:Gl X "range") (hm:X.mg "range"=none) (ha:QA X [a] ta) (hs:starEach [a] X.env=[(false,eval a X.env)]:=by rfl):QI X tg (.Call (.Name "range" p) [a] [] pos) (iRng1 ta):=⟨pi_range1 hg hm ha.h hs⟩
end
section
variable {X:Cx} {tg:Expr}
theorem qpi_range2 {a b:Expr} {ta:TA} {p pos:Pos} (hg:Gl X "range") (hm:X.mg "range"=none) (ha:QA X [a,b] ta) (hs:starEach [a,b] X.env=[(false,eval a X.env),(false,eval b X.env)]:=by rfl) (hs2:starEach [b] X.env=[(false,eval b X.env)]:=by rfl):QI X tg (.Call (.Name "range" p) [a,b] [] pos) (iRng2 ta):=⟨pi_range2 hg hm ha.h hs hs2⟩
end
section
variable {X:Cx} {tg:Expr}
theorem qps_for{iter:Expr}{body:List Stmt}{wi:TI}{g:TG}{tb:TS}{pos:Pos}(hp:PassesOwn (model X.prog X.w) X.A X.env X.xe)(hc:X.calm=true)(hi:QI X tg iter wi)(hg:QG X tg g)(hb:QSs X body tb)(hs:∀ x,foldedSetIterable iter X.env x=pure x:=by intro _;rfl):QS X (.For tg iter body [] pos) (tFor wi g tb):=⟨ps_for hp hc hi.h hg.h hb.h hs⟩
end
section
variable {X:Cx} {a b c:Expr} {ta tb tc:TE} {pos:Pos}
theorem qpe_op{op:Operator}{r:R2}(ho:OpR X (binaryOp op) r)(ha:QE X a ta)(hb:QE X b tb):QE X (.BinOp a op b pos) (tOp r ta tb):=⟨pe_op ho ha.h hb.h⟩
end
section
variable {X:Cx} {a b c:Expr} {ta tb tc:TE} {pos:Pos}
theorem qpe_un{op:UnaryOp}{r:V->Hp->VK->Prop}(ho:UnR X (unaryOp op) r)(ha:QE X a ta):QE X (.UnaryOp op a pos) (tUn r ta):=⟨pe_un ho ha.h⟩
end
section
variable {X:Cx} {a b c:Expr} {ta tb tc:TE} {pos:Pos}
theorem qpe_cmpR{op:CmpOp}{r:R2}(ho:OpR X (compareOp op) r)(ha:QE X a ta)(hb:QE X b tb)(hm:behindInMarks op b=false):QE X (.Compare a [op] [b] pos) (tOp r ta tb):=⟨pe_cmpR ho ha.h hb.h hm⟩
end
section
variable {X:Cx} {a b c:Expr} {ta tb tc:TE} {pos:Pos}
theorem qpt_cmpR{op:CmpOp}{r:R2}(ho:OpR X (compareOp op) r)(ha:QE X a ta)(hb:QE X b tb)(hm:behindInMarks op b=false):QT X (.Compare a [op] [b] pos) (tTest (tOp r ta tb)):=⟨pt_cmpR ho ha.h hb.h hm⟩
end
section
variable {X:Cx} {e:Expr} {es:List Expr} {te:TE} {t:TA} {pos:Pos}
theorem qpa_nil  : QA X [] tNil:=⟨pa_nil ⟩
end
section
variable {X:Cx} {e:Expr} {es:List Expr} {te:TE} {t:TA} {pos:Pos}
theorem qpa_cons(ha:QE X e te)(hr:QA X es t)(hs:starEach (e::es) X.env=(false,eval e X.env)::starEach es X.env:=by rfl):QA X (e::es) (tCons te t):=⟨pa_cons ha.h hr.h hs⟩
end
section
variable {X:Cx} {e:Expr} {es:List Expr} {te:TE} {t:TA} {pos:Pos}
theorem qpe_tup{x1}(h:QA X es t):QE X (.Tuple es x1 pos) (tTup t):=⟨pe_tup h.h⟩
end
section
variable {X:Cx} {e:Expr} {es:List Expr} {te:TE} {t:TA} {pos:Pos}
theorem qpe_lst(h:QA X es t):QE X (.List es pos) (tLst t):=⟨pe_lst h.h⟩
end
section
variable {X:Cx} {x:Str} {p pos:Pos} {e:Expr} {es:List Expr} {t:TA} {id T:String} {r:List V->Hp->VK->Prop}
theorem qpe_callB (hc:CallR X (.builtin id) r) (hg:Gl X x) (hm:X.mg x=none) (hv:bootBuiltins x=some (.builtin id)) (ha:QA X (e::es) t) (hn:x≠"__name__":=by decide) (hdb:(x==("__debug__":Str))=false:=by decide) (he:starEach (e::es) X.env=(false,eval e X.env)::starEach es X.env:=by rfl) (hpl:(backTo pos (starEach es X.env)).any (·.1)=false:=by rfl):QE X (.Call (.Name x p) (e::es) [] pos) (tCB r t):=⟨pe_callB hc hg hm hv ha.h hn hdb he hpl⟩
end
section
variable {X:Cx} {x:Str} {p pos:Pos} {e:Expr} {es:List Expr} {t:TA} {id T:String} {r:List V->Hp->VK->Prop}
theorem qpe_callTy (hc:CallR X (.type T) r) (hg:Gl X x) (hm:X.mg x=none) (hv:bootBuiltins x=some (.type T)) (ha:QA X (e::es) t) (hn:x≠"__name__":=by decide) (hdb:(x==("__debug__":Str))=false:=by decide) (he:starEach (e::es) X.env=(false,eval e X.env)::starEach es X.env:=by rfl) (hpl:(backTo pos (starEach es X.env)).any (·.1)=false:=by rfl):QE X (.Call (.Name x p) (e::es) [] pos) (tCB r t):=⟨pe_callTy hc hg hm hv ha.h hn hdb he hpl⟩
end
section
variable {X:Cx} {e:Expr} {te:TE} {lo hi:Option Expr} {tl th:TO} {pos p2:Pos}
theorem qpo_some(h:QE X e te):QO X (some e) (tPart te):=⟨po_some h.h⟩
end
section
variable {X:Cx} {e:Expr} {te:TE} {lo hi:Option Expr} {tl th:TO} {pos p2:Pos}
theorem qpe_slice{r:V->Option Int->Option Int->Hp->VK->Prop}(hr:SlR X r)(he:QE X e te)(hl:QO X lo tl)(hu:QO X hi th):QE X (.Subscript e (.Slice lo hi none p2) pos) (tSl r te tl th):=⟨pe_slice hr he.h hl.h hu.h⟩
end
section
variable {X:Cx} {a b:Expr} {ta tb:TE} {pos:Pos}
theorem qpe_ix{r:R2}(hr:IxR X r)(ha:QE X a ta)(hb:QE X b tb)(hs:PlainIx b):QE X (.Subscript a b pos) (tOp r ta tb):=⟨pe_ix hr ha.h hb.h hs⟩
end
section
variable {X:Cx} {a b:Expr} {ta tb:TE} {pos:Pos} {o e:Expr} {es:List Expr} {to:TE} {t:TA} {name:Str} {apos cpos:Pos} {T id:String} {r:V->List V->Hp->VK->Prop}
theorem qpe_bm0 (pa:PlainAttrs T) (slot:Slot T name id) (hty:typeOf (.builtin id)=pure (.type "method_descriptor")) (hm:MtR X id r) (ho:QE X o to) (hbase:attributeBase o name X.env (eval o X.env)=eval o X.env:=by rfl) (hline:(apos.endLine==cpos.line)=true:=by rfl):QE X (.Call (.Attribute o name apos) [] [] cpos) (tBM0 X.K T r to):=⟨pe_bm0 pa slot hty hm ho.h hbase hline⟩
end
section
variable {X:Cx} {a b:Expr} {ta tb:TE} {pos:Pos} {o e:Expr} {es:List Expr} {to:TE} {t:TA} {name:Str} {apos cpos:Pos} {T id:String} {r:V->List V->Hp->VK->Prop}
theorem qpe_bm (pa:PlainAttrs T) (slot:Slot T name id) (hty:typeOf (.builtin id)=pure (.type "method_descriptor")) (hm:MtR X id r) (ho:QE X o to) (ha:QA X (e::es) t) (hbase:attributeBase o name X.env (eval o X.env)=eval o X.env:=by rfl) (hfew:((backTo cpos (starEach (e::es) X.env)).all (fun x=>!x.1)&&(backToKw cpos (keywordEach [] X.env)).all (fun x=>x.1.isSome)
   && decide ((e::es).length+([]:List Keyword).length+(if ([]:List Keyword).isEmpty then 0 else 1)<30))=true:=by rfl) (hline:(apos.endLine==cpos.line)=true:=by rfl) (hs:starEach (e::es) X.env=(false,eval e X.env)::starEach es X.env:=by rfl) (hplain:(backTo cpos (starEach es X.env)).any (·.1)=false:=by rfl):QE X (.Call (.Attribute o name apos) (e::es) [] cpos) (tBM X.K T r to t):=⟨pe_bm pa slot hty hm ho.h ha.h hbase hfew hline hs hplain⟩
end
section
variable {X:Cx}
theorem qpv (i:Nat) {x:Str} {pos:Pos} (hN:X.N[i]? = some x:=by rfl) (hv:Vis X.env.scope x:=by first | exact Or.inl rfl | exact Or.inr (Or.inl rfl) | exact Or.inr (Or.inr rfl)) (hd:(x==("__debug__":Str))=false:=by decide) (hcd:(x==("__classdict__":Str))=false:=by decide):QE X (.Name x pos) (tVar i):=⟨pv i hN hv hd hcd⟩
end
section
variable {X:Cx}
theorem qpt_chain3{a b c d:Expr}{ta tb tc td:TE}{pos:Pos}{op op' op2:CmpOp}{r r' r2:R2}(ho:OpR X (compareOp op) r)(ho':OpR X (compareOp op') r')(ho2:OpR X (compareOp op2) r2)(ha:QE X a ta)(hb:QE X b tb)(hc:QE X c tc)(hd:QE X d td)(hm:lastMarks [op,op',op2] [b,c,d]=false:=by with_unfolding_all rfl):QT X (.Compare a [op,op',op2] [b,c,d] pos) (tTest (tChain3 r r' r2 ta tb tc td)):=⟨pt_chain3 ho ho' ho2 ha.h hb.h hc.h hd.h hm⟩
end
section
theorem qpe_globI {X:Cx} {x:Str} {i:Int} {pos:Pos} (hg:Gl X x) (hm:∃ t,X.mg x=some (.int i t)) (hd:(x==("__debug__":Str))=false:=by decide):QE X (.Name x pos) (tC (.int i)):=⟨pe_globI hg hm hd⟩
end
section
theorem qpe_callD {X:Cx} {k:Nat} {x:Str} {st:Stmt} {ps:List Str} {sp:Sp} {e:Expr} {es:List Expr} {t:TA} {p pos:Pos} (D:Def X.prog X.w X.K X.mg X.base k x st ps sp) (hr:Room k X.A) (hg:Gl X x) (ha:QA X (e::es) t) (hdb:(x==("__debug__":Str))=false:=by decide) (he:starEach (e::es) X.env=(false,eval e X.env)::starEach es X.env:=by rfl) (hpl:(backTo pos (starEach es X.env)).any (·.1)=false:=by rfl):QE X (.Call (.Name x p) (e::es) [] pos) (tCall sp [] E0 t):=⟨pe_callD D hr hg ha.h hdb he hpl⟩
end
section
theorem qpi_str{X:Cx}{tg l:Expr}{tl:TE}(hl:QE X l tl):QI X tg l (iStr tl):=⟨pi_str hl.h⟩
end
section
theorem qpf_nil{X:Cx}:QF X [] tNoIf:=⟨pf_nil ⟩
end
section
theorem qpf_one{X:Cx}{c:Expr}{t:TT}(h:QT X c t):QF X [c] t:=⟨pf_one h.h⟩
end
section
variable {X:Cx} {pins:List (Addr×Obj)} {σ:St} {H:Hp} {s:Shared}
theorem qpe_comp{own ns:List Str}{caps:List Nat}{elt tg iter:Expr}{ifs:List Expr}{scope:Scope}{pos:Pos}{wi:TI}{g:TG}{tf:TT}{te:TE}(hc:X.calm=true)(S:CScope scope ns)(cp:Caps X scope ns caps)(hi:QI X tg iter wi)(hg:∀ C s H fp pn,QG (cxC X (own++ns) scope C s H fp pn) tg g)(ht:∀ C s H fp pn,QF (cxC X (own++ns) scope C s H fp pn) ifs tf)(he:∀ C s H fp pn,QE (cxC X (own++ns) scope C s H fp pn) elt te)(hs:∀ x,foldedSetIterable iter X.env x=pure x:=by intro _;rfl):QE X (.ListComp elt [⟨tg,iter,ifs,0⟩] scope pos) (tComp own.length caps wi g tf te):=⟨pe_comp hc S cp hi.h (fun C s H fp pn=>(hg C s H fp pn).h) (fun C s H fp pn=>(ht C s H fp pn).h) (fun C s H fp pn=>(he C s H fp pn).h) hs⟩
end
section
variable {X:Cx} {pins:List (Addr×Obj)} {σ:St} {H:Hp} {s:Shared}
theorem qps_setC{i:Nat}{x:Str}{own ns:List Str}{caps:List Nat}{elt tg iter:Expr}{ifs:List Expr}{scope:Scope}{pos pos' spos:Pos}{wi:TI}{g:TG}{tf:TT}{te:TE}(hN:X.N.Nodup)(hi:X.N[i]? = some x)(hx:Loc X.env.scope x)(hc:X.calm=true)(S:CScope scope ns)(cp:Caps X scope ns caps)(hit:QI X tg iter wi)(hg:∀ C s H fp pn,QG (cxC X (own++ns) scope C s H fp pn) tg g)(ht:∀ C s H fp pn,QF (cxC X (own++ns) scope C s H fp pn) ifs tf)(he:∀ C s H fp pn,QE (cxC X (own++ns) scope C s H fp pn) elt te)(hs:∀ x,foldedSetIterable iter X.env x=pure x:=by intro _;rfl)(hsw:swapsWith (.ListComp elt [⟨tg,iter,ifs,0⟩] scope pos) (some (.Name x pos')) spos.line X.env=pure true:=by rfl)(hf:X.fn x=true\/X.env.scope.names.lookup x=some .local:=by first | exact .inl rfl | exact .inr rfl | assumption):QS X (.Assign [.Name x pos'] (.ListComp elt [⟨tg,iter,ifs,0⟩] scope pos) spos) (tAsg (tComp own.length caps wi g tf te) (gName i)):=⟨ps_setC hN hi hx hc S cp hit.h (fun C s H fp pn=>(hg C s H fp pn).h) (fun C s H fp pn=>(ht C s H fp pn).h) (fun C s H fp pn=>(he C s H fp pn).h) hs hsw hf⟩
end
section
theorem qpe_globR {X:Cx} {x:Str} {K:PySem.W.Frag} {xs:List V} {pos:Pos} (hg:Gl X x) (hm:∃ a,X.mg x=some (.ref a)/\∀ H,SqT K H a xs) (hd:(x==("__debug__":Str))=false:=by decide):QE X (.Name x pos) (tGlobR K xs):=⟨pe_globR hg hm hd⟩
end
section
theorem qpss_cut{X:Cx}{st:Stmt}{rest:List Stmt}{t u:TS}(h1:QS X st t)(h2:QSs X rest u):QSs X (st::rest) (tCut t u):=⟨pss_cut h1.h h2.h⟩
end
section
variable {X:Cx} {es:List Expr} {te:TE} {t:TA}
theorem qpa_BinOp{a0:PySem.Expr}{a1:PySem.Operator}{a2:PySem.Expr}{a3:PySem.Pos}(ha:QE X (Expr.BinOp a0 a1 a2 a3) te)(hr:QA X es t):QA X ((Expr.BinOp a0 a1 a2 a3)::es) (tCons te t):=⟨pa_BinOp ha.h hr.h⟩
end
section
variable {X:Cx} {es:List Expr} {te:TE} {t:TA}
theorem qpa_ListComp{a0:PySem.Expr}{a1:List Comprehension}{a2:PySem.Scope}{a3:PySem.Pos}(ha:QE X (Expr.ListComp a0 a1 a2 a3) te)(hr:QA X es t):QA X ((Expr.ListComp a0 a1 a2 a3)::es) (tCons te t):=⟨pa_ListComp ha.h hr.h⟩
end
section
variable {X:Cx} {es:List Expr} {te:TE} {t:TA}
theorem qpa_Compare{a0:PySem.Expr}{a1:List CmpOp}{a2:List Expr}{a3:PySem.Pos}(ha:QE X (Expr.Compare a0 a1 a2 a3) te)(hr:QA X es t):QA X ((Expr.Compare a0 a1 a2 a3)::es) (tCons te t):=⟨pa_Compare ha.h hr.h⟩
end
section
variable {X:Cx} {es:List Expr} {te:TE} {t:TA}
theorem qpa_Call{a0:PySem.Expr}{a1:List Expr}{a2:List Keyword}{a3:PySem.Pos}(ha:QE X (Expr.Call a0 a1 a2 a3) te)(hr:QA X es t):QA X ((Expr.Call a0 a1 a2 a3)::es) (tCons te t):=⟨pa_Call ha.h hr.h⟩
end
section
variable {X:Cx} {es:List Expr} {te:TE} {t:TA}
theorem qpa_Constant{a0:PySem.Const}{a1:Nat}{a2:PySem.Pos}(ha:QE X (Expr.Constant a0 a1 a2) te)(hr:QA X es t):QA X ((Expr.Constant a0 a1 a2)::es) (tCons te t):=⟨pa_Constant ha.h hr.h⟩
end
section
variable {X:Cx} {es:List Expr} {te:TE} {t:TA}
theorem qpa_Subscript{a0:PySem.Expr}{a1:PySem.Expr}{a2:PySem.Pos}(ha:QE X (Expr.Subscript a0 a1 a2) te)(hr:QA X es t):QA X ((Expr.Subscript a0 a1 a2)::es) (tCons te t):=⟨pa_Subscript ha.h hr.h⟩
end
section
variable {X:Cx} {es:List Expr} {te:TE} {t:TA}
theorem qpa_Name{a0:PySem.Str}{a1:PySem.Pos}(ha:QE X (Expr.Name a0 a1) te)(hr:QA X es t):QA X ((Expr.Name a0 a1)::es) (tCons te t):=⟨pa_Name ha.h hr.h⟩
end
section
variable {X:Cx} {es:List Expr} {te:TE} {t:TA}
theorem qpa_List{a0:List Expr}{a1:PySem.Pos}(ha:QE X (Expr.List a0 a1) te)(hr:QA X es t):QA X ((Expr.List a0 a1)::es) (tCons te t):=⟨pa_List ha.h hr.h⟩
end
section
variable {X:Cx} {es:List Expr} {te:TE} {t:TA}
theorem qpa_Tuple{a0:List Expr}{a1:Nat}{a2:PySem.Pos}(ha:QE X (Expr.Tuple a0 a1 a2) te)(hr:QA X es t):QA X ((Expr.Tuple a0 a1 a2)::es) (tCons te t):=⟨pa_Tuple ha.h hr.h⟩
end
section
variable {X:Cx} {es:List Expr} {te:TE} {t:TA}
theorem qpa_Dict{a0:List (Option Expr)}{a1:List Expr}{a2:PySem.Pos}(ha:QE X (Expr.Dict a0 a1 a2) te)(hr:QA X es t):QA X ((Expr.Dict a0 a1 a2)::es) (tCons te t):=⟨pa_Dict ha.h hr.h⟩
end
section
variable {X:Cx} {o i e value:Expr} {pos pos' tpos:Pos} {td ty tv:TE}
theorem qpe_dget(hu:X.A.units+1<cLine)(ho:QE X o td)(hi:QE X i ty)(hs:NoSl i):QE X (.Subscript o i pos) (tDGet td ty):=⟨pe_dget hu ho.h hi.h hs⟩
end
section
variable {X:Cx} {o i e value:Expr} {pos pos' tpos:Pos} {td ty tv:TE}
theorem qps_dput(hu:X.A.units+1<cLine)(ho:QE X o td)(hi:QE X i ty)(hv:QE X value tv)(hs:swapsWith value (some (.Subscript o i pos')) pos.line X.env=pure false):QS X (.Assign [.Subscript o i pos'] value pos) (sDPut td ty tv):=⟨ps_dput hu ho.h hi.h hv.h hs⟩
end
section
variable {X:Cx} {pos:Pos}
theorem qpe_dnewK  : QE X (.Dict [] [] pos) tDNewK:=⟨pe_dnewK ⟩
end
section
variable {X:Cx} {pos:Pos}
theorem qpe_dnewT  : QE X (.Dict [] [] pos) tDNewT:=⟨pe_dnewT ⟩
end
section
theorem qpps_nil{X:Cx}{pos:Pos}:QPPs X pos [] [] []:=⟨pps_nil ⟩
end
section
theorem qpps_cons{X:Cx}{pos:Pos}{k v:Expr}{ks:List (Option Expr)}{vs:List Expr}{tk tv:TE}{trs:List (TE×TE)}(hk:QE X k tk)(hv:QE X v tv)(hr:QPPs X pos ks vs trs):QPPs X pos (some k::ks) (v::vs) ((tk,tv)::trs):=⟨pps_cons hk.h hv.h hr.h⟩
end
section
theorem qpe_disp{X:Cx}{pos:Pos}{keys:List (Option Expr)}{values:List Expr}{trs:List (TE×TE)}(h:QPPs X pos keys values trs)(hall:keys.all (·.isSome)=true)(hl:keys.length=values.length)(h0:keys≠[])(h15:keys.length<=15):QE X (.Dict keys values pos) (tDisp trs):=⟨pe_disp h.h hall hl h0 h15⟩
end
section
variable {X:Cx} {o e f:Expr} {apos cpos:Pos} {td ty tx:TE}
theorem qpe_dget2 (hu:X.A.units+1<cLine) (ho:QE X o td) (he:QE X e ty) (hf:QE X f tx) (m:M2 X o "get" apos e f cpos):QE X (.Call (.Attribute o "get" apos) [e,f] [] cpos) (tDGet2 td ty tx):=⟨pe_dget2 hu ho.h he.h hf.h m⟩
end
section
variable {X:Cx} {k:Nat} {x f:Str} {st:Stmt} {ps:List Str} {sp:Sp} {e:Expr} {te:TE} {p p2 kp pos:Pos}
theorem qpe_sortK (D:Def X.prog X.w X.K X.mg X.base k f st ps sp) (hr:Room (k+2) X.A) (hg:Gl X "sorted") (hm:X.mg "sorted"=none) (hgf:Gl X f) (he:QE X e te) (hdf:(f==("__debug__":Str))=false:=by decide) (hs:starEach [e] X.env=[(false,eval e X.env)]:=by rfl):QE X (.Call (.Name "sorted" p) [e] [⟨some "key",.Name f p2,kp⟩] pos) (tSortK X.K sp te):=⟨pe_sortK D hr hg hm hgf he.h hdf hs⟩
end
section
variable {X:Cx}
theorem qpe_maxD {e e2:Expr} {te td:TE} {p kp pos:Pos} (hc:X.calm=true) (hg:Gl X "max") (hm:X.mg "max"=none) (he:QE X e te) (hd:QE X e2 td) (hs:starEach [e] X.env=[(false,eval e X.env)]:=by rfl):QE X (.Call (.Name "max" p) [e] [⟨some "default",e2,kp⟩] pos) (tOp (rMaxD X.K) te td):=⟨pe_maxD hc hg hm he.h hd.h hs⟩
end
section
variable {X:Cx} {pins:List (Addr×Obj)} {σ:St} {H:Hp} {s:Shared} {a:Addr} {o:Obj} {kvs:List (List Key×V)}
theorem qps_setCD{i:Nat}{x:Str}{own ns:List Str}{caps:List Nat}{elt tg iter:Expr}{ifs:List Expr}{scope:Scope}{pos pos' spos:Pos}{tl:TE}{g:TG}{tf:TT}{te:TE}(hN:X.N.Nodup)(hi:X.N[i]? = some x)(hx:Loc X.env.scope x)(hc:X.calm=true)(S:CScope scope ns)(cp:Caps X scope ns caps)(hit:QE X iter tl)(hg:∀ C s H fp pn,QG (cxC X (own++ns) scope C s H fp pn) tg g)(ht:∀ C s H fp pn,QF (cxC X (own++ns) scope C s H fp pn) ifs tf)(he:∀ C s H fp pn,QE (cxC X (own++ns) scope C s H fp pn) elt te)(hs:∀ x,foldedSetIterable iter X.env x=pure x:=by intro _;rfl)(hsw:swapsWith (.ListComp elt [⟨tg,iter,ifs,0⟩] scope pos) (some (.Name x pos')) spos.line X.env=pure true:=by rfl)(hf:X.fn x=true\/X.env.scope.names.lookup x=some .local:=by first | exact .inl rfl | exact .inr rfl | assumption):QS X (.Assign [.Name x pos'] (.ListComp elt [⟨tg,iter,ifs,0⟩] scope pos) spos) (tAsg (tCompD own.length caps tl g tf te) (gName i)):=⟨ps_setCD hN hi hx hc S cp hit.h (fun C s H fp pn=>(hg C s H fp pn).h) (fun C s H fp pn=>(ht C s H fp pn).h) (fun C s H fp pn=>(he C s H fp pn).h) hs hsw hf⟩
end
section
theorem qpe_listrev {X:Cx} {e:Expr} {te:TE} {p p2 pos2 pos:Pos} (hc:X.calm=true) (hgl:Gl X "list") (hml:X.mg "list"=none) (hgr:Gl X "reversed") (hmr:X.mg "reversed"=none) (he:QE X e te) (hs:starEach [.Call (.Name "reversed" p2) [e] [] pos2] X.env=[(false,eval (.Call (.Name "reversed" p2) [e] [] pos2) X.env)]:=by rfl) (hs2:starEach [e] X.env=[(false,eval e X.env)]:=by rfl):QE X (.Call (.Name "list" p) [.Call (.Name "reversed" p2) [e] [] pos2] [] pos) (tRev te):=⟨pe_listrev hc hgl hml hgr hmr he.h hs hs2⟩
end
end L2
namespace L2
open PySem PySem.Spec PyProof.Rows
open AutoSeq1 (wpAny_loadPart')
section
variable {prog:Program} {w:World} {A:Around} {E:Value->Shared->Prop} {s:Shared}
theorem nextT_item{it t:Addr}{i:Nat}{items}{x:Value}{Q:Value->Shared->Prop}(hit:s.heap.IsTupleIter it t i)(ht:s.heap.IsTuple t items)(hx:items[i]? = some x)
  (hQ:∀ h',h'.IsTupleIter it t (i+1)->Heap.SameBut it s.heap h'->Q x { s with heap:=h' }):wpAny (model prog w) A (Builtin.SmallTypes.nextOf (.ref it)) Q E s:=by
 obtain⟨o,ho,hc,hd⟩:=id hit;obtain⟨ol,hol,_,nl,hdl⟩:=ht
 unfold Builtin.SmallTypes.nextOf
 refine wpAny_bind (wpAny_callSpecial?_slot (name:=Str.ofString "__next__") hit.typeIs F.slot_tuple_iterator_next (wpAny_call_entry F.slot_tuple_iterator_next hit.typeIs F.entry_tuple_iterator_next ?_ (F.args_tuple_iterator_next_1 _)))
 show wpAny _ _ (field (.ref it) 0>>=_) _ _ s;refine wpAny_bind (wpAny_field ho hd (x:=.ref t) rfl ?_)
 show wpAny _ _ (if (Value.ref t==Value.none)=true then _ else _) _ _ s;rw [if_neg (show ¬ ((Value.ref t==Value.none)=true) from Bool.false_ne_true)]
 show wpAny _ _ (field (.ref it) 1>>=_) _ _ s;refine wpAny_bind (wpAny_field ho hd (x:=.int i 0) rfl ?_)
 show wpAny _ _ (seqItems? (.ref t)>>=_) _ _ s;refine wpAny_bind (wpAny_seqItems hol hdl ?_)
 simp only [Int.toNat_natCast,hx];refine wpAny_bind (wpAny_setField ho hd (by simp) (wpAny_pure ⟨x,rfl,wpAny_pure (hQ _ ?_ (Heap.SameBut.update ..))⟩))
 exact⟨_,Heap.get?_update_self _ ho (Obj.isFreed_of_fields (Obj.data_mapFields hd _)),(Obj.cls_mapFields ..).trans hc,by rw [Obj.data_mapFields hd];simp [rawInt]⟩
theorem nextT_end{it t:Addr}{i:Nat}{items}{Q:Value->Shared->Prop}(hh:A.handled=none)(hit:s.heap.IsTupleIter it t i)(ht:s.heap.IsTuple t items)(hx:items[i]? = none)
  (hE:∀ h' e,Heap.ExtBut it s.heap h'->(∃ o,h'.get? e=some o/\o.cls=.type "StopIteration")->E (.ref e) { s with heap:=h' }):wpAny (model prog w) A (Builtin.SmallTypes.nextOf (.ref it)) Q E s:=by
 obtain⟨o,ho,hc,hd⟩:=id hit;obtain⟨ol,hol,_,nl,hdl⟩:=ht
 unfold Builtin.SmallTypes.nextOf
 refine wpAny_bind (wpAny_callSpecial?_slot (name:=Str.ofString "__next__") hit.typeIs F.slot_tuple_iterator_next (wpAny_call_entry F.slot_tuple_iterator_next hit.typeIs F.entry_tuple_iterator_next ?_ (F.args_tuple_iterator_next_1 _)))
 show wpAny _ _ (field (.ref it) 0>>=_) _ _ s;refine wpAny_bind (wpAny_field ho hd (x:=.ref t) rfl ?_)
 show wpAny _ _ (if (Value.ref t==Value.none)=true then _ else _) _ _ s;rw [if_neg (show ¬ ((Value.ref t==Value.none)=true) from Bool.false_ne_true)]
 show wpAny _ _ (field (.ref it) 1>>=_) _ _ s;refine wpAny_bind (wpAny_field ho hd (x:=.int i 0) rfl ?_)
 show wpAny _ _ (seqItems? (.ref t)>>=_) _ _ s;refine wpAny_bind (wpAny_seqItems hol hdl ?_)
 simp only [Int.toNat_natCast,hx];refine wpAny_bind (wpAny_rule (wpAny_bind (wpAny_setField ho hd (by simp) ?_)))
 show wpAny _ _ (newExc (.type "StopIteration") []>>=_) _ _ _;refine wpAny_bind ?_
 simp only [newExc,newTuple];refine wpAny_bind (wpAny_newObj_type ?_ (by size_fits))
 refine wpAny_bind (m:=firstArgMember _ _) (wpAny_of_eq (a:=Value.none) (by first | rfl | (simp only [firstArgMember];rfl)) ?_);refine wpAny_newObj_type ?_ (by size_fits)
 simp only [raiseNew];refine wpAny_bind (wpAny_handled ?_);first | rw [show A.in1.handled=none from hh] | rw [hh]
 refine wpAny_bind (wpAny_pure (wpAny_throw ?_));exact hE _ _ (((Heap.SameBut.update ..).extBut.push _).push _) ⟨_,Heap.get?_push_size _ rfl,rfl⟩
theorem Draws.tup(hh:A.handled=none)(it t:Addr)(hne:t≠it)(items:Array Value):Draws prog w A it [it,t] items.size (fun i v=>items[i]? = some v) (fun i h=>h.IsTupleIter it t i/\h.IsTuple t items) where
 live:=fun _ _ st=>let ⟨o,ho,_⟩:=st.1;⟨o,ho⟩
 frame:=fun _ _ _ st hk=>by
  obtain⟨st1,o,ho,r⟩:=st
  exact⟨st1.at fun o e=>hk it (by simp) o e,o,hk t (by simp) o ho,r⟩
 item:=fun i s Q E hi st hQ=>nextT_item st.1 st.2 (x:=items[i]) (by simp [hi]) fun h' hit' hs'=>hQ _ h' s.toks (by simp [hi]) ⟨hit',st.2.extBut hs'.extBut hne⟩ hs'
 done:=fun s Q E st hE=>nextT_end hh st.1 st.2 (by simp) hE
end
section
variable {X:Cx} {pins:List (Addr×Obj)} {σ:St} {H:Hp} {s:Shared} {h':Heap}
theorem Inv.turnAll{fp:List Addr}{t':Nat}(I:Inv X pins σ H s)(hf:∀ b∈fp,FpOk X pins H b)(k:∀ b u,b∉fp->s.heap.get? b=some u->h'.get? b=some u):Inv X pins σ H { s with heap:=h',toks:=t' }:=by
 have nfp:∀ b u,H b=some u->b∉fp:=fun b u e z=>by rw [(hf b z).1] at e;cases e
 refine I.step (g':=s.gens) (d':=s.drawn) (ch:=fp) (fun b hb=>?_) (fun b o _ _ hc e _=>k b o hc e) (fun b o _ _ hc e _=>⟨o.slots,k b o hc e⟩) (fun _ _ _ _ n=>n)
  (fun b o hc e=>⟨o,k b o hc e⟩) (fun _ _ e=>e) (fun _ _ _ e=>e) (fun b ps e=>⟨#[],by rw [e];simp⟩) (fun m hm=>?_) (fun b u e=>?_) I.bare
 ·obtain⟨_,f1,_,f3,f4,f5⟩:=hf b hb
  exact⟨f3,f1,f4,f5⟩
 ·obtain⟨ob,es,ep,ho,r⟩:=hm
  exact⟨ob,es,ep,k _ ob (fun z=>(hf _ z).2.1 rfl) ho,r⟩
 ·refine (I.hok b u e).stay (fun c v hc q=>k c v ?_ q) (fun _ q=>q) fun _ _ q=>q
  rcases hc with z | z
  ·rw [z];exact nfp b u e
  ·exact nfp c _ z
end
def ItET(K:PySem.W.Frag)(a:Addr):It:=
 ⟨fun i H=>∃ xs x,SqT K H a xs/\xs[i]? = some x,fun i H v H'=>∃ p x,H p=none/\(∀ xs,SqT K H a xs->xs[i]? = some x)/\v=.ref p/\H'=upd H p (.tup [.int i,x]),fun i H=>∃ xs,SqT K H a xs/\xs.length=i⟩
def iEnumT(K:PySem.W.Frag)(ta:TA):TI:=fun σ H R=>ta σ H fun vs H1=>∃ a,vs=[.ref a]/\(∃ xs,SqT K H1 a xs)/\R (ItET K a) H1
def ItZ(K:PySem.W.Frag)(a b:Addr):It:=
  ⟨fun i H=>∃ xs ys x y,SqL K H a xs/\SqL K H b ys/\xs[i]? = some x/\ys[i]? = some y,
   fun i H v H'=>∃ p x y,H p=none/\(∀ xs,SqL K H a xs->xs[i]? = some x)/\(∀ ys,SqL K H b ys->ys[i]? = some y)/\v=.ref p/\H'=upd H p (.tup [x,y]),
   fun i H=>∃ xs ys,SqL K H a xs/\SqL K H b ys/\(xs.length<=i\/ys.length<=i)⟩
theorem turn_zip {P : Program} {w : World} {K : PySem.W.Frag} {elts : List Expr} {x1 : Nat} {pos : Pos} (z TI TO i1 i2 a b : Addr) (ap : ZipApart z TI TO i1 i2 a b) :
    Turn P w K (.Tuple elts x1 pos) (ItZ K a b) [z, TI, TO, i1, i2] z (fun i h => IsZip h z TI TO .none ∧ IsPair h TI (.ref i1) (.ref i2) ∧ (∃ u v, IsPair h TO u v) ∧ h.IsListIter i1 a i ∧ h.IsListIter i2 b i) where
  mem := by simp
  obj := fun i h st c hb => by
    obtain ⟨h1, h2, ⟨u, v, h3⟩, ⟨o4, e4, c4, d4⟩, ⟨o5, e5, c5, d5⟩⟩ := st
    simp only [List.mem_cons, List.not_mem_nil, or_false] at hb
    rcases hb with rfl | rfl | rfl | rfl | rfl
    · exact ⟨_, h1, fun v z => by cases z⟩
    · exact ⟨_, h2, fun v z => by cases z⟩
    · exact ⟨_, h3, fun v z => by cases z⟩
    · exact ⟨o4, e4, fun v z => by rw [d4] at z; cases z⟩
    · exact ⟨o5, e5, fun v z => by rw [d5] at z; cases z⟩
  keep := fun i h h' st k => by
    obtain ⟨h1, h2, ⟨u, v, h3⟩, h4, h5⟩ := st
    exact ⟨k z (by simp) _ h1, k TI (by simp) _ h2, ⟨u, v, k TO (by simp) _ h3⟩, h4.at fun o e => k i1 (by simp) o e, h5.at fun o e => k i2 (by simp) o e⟩
  item := by
    intro X hP hw hK hc i pins s σ H E I hf st hg
    subst hP hw hK
    obtain ⟨h1, h2, ⟨u0, v0, h3⟩, h4, h5⟩ := st
    obtain ⟨xs, ys, x, y, hqa, hqb, hx, hy⟩ := hg
    obtain ⟨ia, ra, pa, _⟩ := I.list hqa
    obtain ⟨ib, rb, pb, _⟩ := I.list hqb
    obtain ⟨ua, hua, rua⟩ := ra.get hx
    obtain ⟨ub, hub, rub⟩ := rb.get hy
    refine wpAny_pyNext_zip_item ap h1 h2 h3 h4 h5 pa.isList pb.isList (x := ua) (y := ub) (by simpa using hua) (by simpa using hub) fun h' hz ho hi1 hi2 hp hsz kp => ?_
    refine ⟨_, rfl, wpAny_letOwnedTupleGo_zip hz fun hh hz2 hs2 => ?_⟩
    have hn : H s.heap.objs.size = none := I.hok.fresh (Nat.le_refl _)
    have lz : s.heap.objs.size ≠ z := Nat.ne_of_gt (Heap.lt_size h1)
    have ht2 : hh.get? s.heap.objs.size = some { cls := .type "tuple", data := .seq #[ua, ub] } := (hs2.2 _ lz).trans hp
    refine ⟨.ref s.heap.objs.size, upd H s.heap.objs.size (.tup [x, y]), I.turnNew (fp := [z, TI, TO, i1, i2]) hf (fun c o hb q => ?_) (Nat.le_refl _) (show ObjOk X.prog X.w _ hh _ (.tup _) from ⟨(by show 2 ≤ sizeLine; decide), [ua, ub], .cons rua (.cons rub .nil), _, ht2, rfl, _, rfl⟩), rfl, ⟨_, x, y, hn, fun zs hz => by rw [I.list_inj hz hqa]; exact hx, fun zs hz => by rw [I.list_inj hz hqb]; exact hy, rfl, rfl⟩, ?_, fun c hb => ?_⟩
    · simp only [List.mem_cons, List.not_mem_nil, or_false, not_or] at hb
      exact (hs2.2 c hb.1).trans (kp c o hb.1 hb.2.2.1 hb.2.2.2.1 hb.2.2.2.2 q)
    · refine ⟨hz2, (hs2.2 TI ap.TIz).trans (kp TI _ ap.TIz ap.TITO ap.TIi1 ap.TIi2 h2), ⟨_, _, (hs2.2 TO ap.TOz).trans ho⟩, hi1.at fun o e => (hs2.2 i1 ap.i1z).trans e, hi2.at fun o e => (hs2.2 i2 ap.i2z).trans e⟩
    · have hb' := (hf c hb).1
      rw [upd_ne (fun z => ?_)]
      · exact hb'
      · have : c < s.heap.objs.size := by
          simp only [List.mem_cons, List.not_mem_nil, or_false] at hb
          obtain ⟨o4, e4, _⟩ := h4
          obtain ⟨o5, e5, _⟩ := h5
          rcases hb with rfl | rfl | rfl | rfl | rfl
          · exact Heap.lt_size h1
          · exact Heap.lt_size h2
          · exact Heap.lt_size h3
          · exact Heap.lt_size e4
          · exact Heap.lt_size e5
        exact absurd z (Nat.ne_of_lt this)
  done := by
    intro X hP hw hK hc i pins s σ H E I hf st hg
    subst hP hw hK
    obtain ⟨h1, h2, ⟨u0, v0, h3⟩, h4, h5⟩ := st
    obtain ⟨xs, ys, hqa, hqb, hxy⟩ := hg
    obtain ⟨ia, ra, pa, _⟩ := I.list hqa
    obtain ⟨ib, rb, pb, _⟩ := I.list hqb
    have la := ra.length
    have lb := rb.length
    refine wpAny_pyNext_zip_end (I.ok.hd hc) ap h1 h2 h3 h4 h5 pa.isList pb.isList (hxy.imp (fun h => by simp; omega) (fun h => by simp; omega)) fun h' kp => ⟨rfl, I.turnAll (t' := s.toks) hf fun c o hb q => ?_⟩
    simp only [List.mem_cons, List.not_mem_nil, or_false, not_or] at hb
    exact kp c o hb.1 hb.2.2.1 hb.2.2.2.1 hb.2.2.2.2 q
  self := fun _ _ _ _ _ st h => wpAny_pyIter_zip st.1 h
def iZip(K:PySem.W.Frag)(ta:TA):TI:=fun σ H R=>ta σ H fun vs H1=>∃ a b,vs=[.ref a,.ref b]/\(∃ xs,SqL K H1 a xs)/\(∃ ys,SqL K H1 b ys)/\R (ItZ K a b) H1
theorem pi_zip {X:Cx} {a b:Expr} {ta:TA} {elts:List Expr} {x1:Nat} {p pos tpos:Pos} (hg:Gl X "zip") (hm:X.mg "zip"=none) (ha:PA X [a,b] ta) (hs:starEach [a,b] X.env=(false,eval a X.env)::starEach [b] X.env:=by rfl) (hpl:(backTo pos (starEach [b] X.env)).any (·.1)=false:=by rfl) :
  PI X (.Tuple elts x1 tpos) (.Call (.Name "zip" p) [a,b] [] pos) (iZip X.K ta):=by
 intro pins s σ H R I h
 refine Call_ (ld_blt I hg hm boot_zip (PyProof.Rows.callWith_type1 (thn (ha pos pins s σ H _ I h) fun us s1 ⟨vs,H1,I1,r1,z1,z2,e,⟨xs,hx⟩,⟨ys,hy⟩,q⟩=>?_) hs hpl))
 subst e
 obtain⟨u,u',rfl,r2,r3⟩:=vals2 r1
 cases r2
 cases r3
 obtain⟨ia,ra,pa,_⟩:=I1.list hx
 obtain⟨ib,rb,pb,_⟩:=I1.list hy
 obtain⟨oa,hoa,_⟩:=id pa.isList
 obtain⟨ob,hob,_⟩:=id pb.isList
 refine call_zip_2 pa.isList pb.isList fun h' hz hti hto hi1 hi2 hsz kp=>?_
 refine wpAny_pyIter_zip hz ?_
 have I2:Inv X pins σ H1 { s1 with heap:=h' }:=I1.kept (t':=s1.toks) kp
 refine⟨_,_,_,_,H1,rfl,I2,turn_zip _ _ _ _ _ z1 z2 (zipApart_new (Heap.lt_size hoa) (Heap.lt_size hob)),⟨hz,hti,⟨_,_,hto⟩,hi1,hi2⟩,fun b hb=>?_,q⟩
 have hle:s1.heap.objs.size<=b:=by
  simp only [List.mem_cons,List.not_mem_nil,or_false] at hb
  rcases hb with rfl | rfl | rfl | rfl | rfl
  ·exact Nat.le_add_right _ _
  ·exact Nat.le_add_right _ _
  ·exact Nat.le_add_right _ _
  ·exact Nat.le_refl _
  ·exact Nat.le_add_right _ _
 exact I1.fpOk hle (I1.hok.fresh hle)
end L2
namespace L2
open PySem PySem.Spec PyProof.Rows HT
section
variable {X:Cx}
theorem qpi_zip {a b:Expr} {ta:TA} {elts:List Expr} {x1:Nat} {p pos tpos:Pos} (hg:Gl X "zip") (hm:X.mg "zip"=none) (ha:QA X [a,b] ta) (hs:starEach [a,b] X.env=(false,eval a X.env)::starEach [b] X.env:=by rfl) (hpl:(backTo pos (starEach [b] X.env)).any (·.1)=false:=by rfl) :
  QI X (.Tuple elts x1 tpos) (.Call (.Name "zip" p) [a,b] [] pos) (iZip X.K ta):=⟨pi_zip hg hm ha.h hs hpl⟩
end
section
variable {σ:St} {H:Hp} {D:Ends} {K:PySem.W.Frag}
theorem w_forET{ta:TA}{g:TG}{tb:TS}:tFor (iEnumT K ta) g tb D σ H=ta σ H fun vs H1=>∃ a,vs=[.ref a]/\(∃ xs,SqT K H1 a xs)/\ForJ (ItET K a) g tb D σ H1:=rfl
theorem w_compZ{k:Nat}{caps:List Nat}{ta:TA}{g:TG}{tf:TT}{te:TE}{Q:VK}:tComp k caps (iZip K ta) g tf te σ H Q=ta σ H fun vs H1=>∃ a b,vs=[.ref a,.ref b]/\(∃ xs,SqL K H1 a xs)/\(∃ ys,SqL K H1 b ys)/\CompJ (ItZ K a b) g tf te Q (initC k caps σ) H1:=rfl
end
end L2
namespace L2
open PySem PySem.Spec PyProof.Rows
structure ZApart (z TI TO i1 i2:Addr) (f1 f2:List Addr):Prop where
 tz:TI≠z
 oz:TO≠z
 az:i1≠z
 bz:i2≠z
 to:TI≠TO
 ta:TI≠i1
 tb:TI≠i2
 oa:TO≠i1
 ob:TO≠i2
 ab:i1≠i2
 z1:z∉f1
 o1:TO∉f1
 b1:i2∉f1
 z2:z∉f2
 o2:TO∉f2
 a2:i1∉f2
section
variable {prog:Program} {w:World} {A:Around} {E:Value->Shared->Prop} {s:Shared} {z TI TO i1 i2:Addr} {f1 f2:List Addr} {n1 n2 k:Nat} {P1 P2:Nat->Value->Prop} {S1 S2:Nat->Heap->Prop} {a b:Value}
theorem draws_keep{it:Addr}{fp:List Addr}{n i:Nat}{P:Nat->Value->Prop}{S:Nat->Heap->Prop}{h h':Heap}{c:Addr}(D:Draws prog w A it fp n P S)(st:S i h)(sb:Heap.SameBut c h h')(hc:c∉fp):S i h':=
 D.frame i h h' st fun b hb o e=>(sb.2 b (fun q=>hc (q▸hb))).trans e
theorem zipD_item{Q:Value->Shared->Prop}(D1:Draws prog w A i1 f1 n1 P1 S1)(D2:Draws prog w A i2 f2 n2 P2 S2)(ap:ZApart z TI TO i1 i2 f1 f2)(hz:IsZip s.heap z TI TO .none)(hTI:IsPair s.heap TI (.ref i1) (.ref i2))(hTO:IsPair s.heap TO a b)(h1:S1 k s.heap)(h2:S2 k s.heap)(k1:k<n1)(k2:k<n2)
  (hQ:∀ (h':Heap) (x y:Value) (tk:Nat),P1 k x->P2 k y->IsZip h' z TI TO (rawInt s.heap.objs.size)->IsPair h' TO x y->S1 (k+1) h'->S2 (k+1) h'->IsPair h' s.heap.objs.size x y->(∀ c o,c≠z->c≠TO->c≠i1->c≠i2->s.heap.get? c=some o->h'.get? c=some o)->Q (.ref s.heap.objs.size) { s with heap:=h',toks:=tk }) :
  wpAny (model prog w) A (Builtin.«zip.__next__» ⟨[.ref z],[]⟩) (fun fin s'=>∃ v,fin=.done (.ret v)/\Q v s') E s:=by
 show wpAny _ _ (field (.ref z) 2>>=_) _ _ _;refine wpAny_bind (wpAny_field hz rfl (x:=.bool false) rfl ?_)
 show wpAny _ _ (field (.ref z) 3>>=_) _ _ _;refine wpAny_bind (wpAny_field hz rfl (x:=.ref TI) rfl ?_);refine wpAny_bind (wpAny_seqItems hTI rfl ?_)
 show wpAny _ _ (Builtin.SmallTypes.ownedTupleIsFree (.ref z)>>=_) _ _ _;refine wpAny_bind ?_;unfold Builtin.SmallTypes.ownedTupleIsFree
 refine wpAny_bind (wpAny_field hz rfl (x:=.none) rfl (wpAny_pure ?_));simp only [if_true];refine wpAny_bind (wpAny_rule ?_)
 refine wpAny_bind (wpAny_field hz rfl (x:=.ref TO) rfl ?_);refine wpAny_bind (wpAny_setField_rec hz (by simp) fun g1 hz1 b1=>?_)
 replace hz1:IsZip g1 z TI TO .ellipsis:=hz1
 refine wpAny_bind ?_;simp only [List.zipIdx_cons,List.zipIdx_nil,List.forIn_cons,List.forIn_nil]
 refine wpAny_bind (wpAny_bind (wpAny_onRaise ?_));show wpAny _ _ (Builtin.SmallTypes.nextOf (.ref i1)>>=_) _ _ _
 refine wpAny_bind (D1.item k { s with heap:=g1 } _ _ k1 (draws_keep D1 h1 b1 ap.z1) fun x g2 t2 px s2 b2=>wpAny_pure ?_)
 have hT2:IsPair g2 TO a b:=b2.extBut _ _ ap.oa (b1.extBut _ _ ap.oz hTO)
 refine wpAny_bind (wpAny_seqItems hT2 rfl ?_);refine wpAny_bind (wpAny_updateSeq_pair hT2 fun g3 hT3 b3=>?_)
 replace hT3:IsPair g3 TO x b:=hT3
 refine wpAny_bind (wpAny_letGo (wpAny_pure ?_));refine wpAny_bind (wpAny_bind (wpAny_onRaise ?_));show wpAny _ _ (Builtin.SmallTypes.nextOf (.ref i2)>>=_) _ _ _
 refine wpAny_bind (D2.item k { s with heap:=g3,toks:=t2 } _ _ k2 (draws_keep D2 (draws_keep D2 (draws_keep D2 h2 b1 ap.z2) b2 ap.a2) b3 ap.o2) fun y g4 t4 py s4 b4=>wpAny_pure ?_)
 have hT4:IsPair g4 TO x b:=b4.extBut _ _ ap.ob hT3
 refine wpAny_bind (wpAny_seqItems hT4 rfl ?_);refine wpAny_bind (wpAny_updateSeq_pair hT4 fun g5 hT5 b5=>?_)
 replace hT5:IsPair g5 TO x y:=hT5
 refine wpAny_bind (wpAny_letGo (wpAny_pure (wpAny_pure ?_)));refine wpAny_bind (wpAny_seqItems hT5 rfl ?_);refine wpAny_bind (wpAny_newTuple ?_)
 have hsz:g5.objs.size=s.heap.objs.size:=by rw [b5.1,b4.1,b3.1,b2.1,b1.1]
 have hz5:IsZip g5 z TI TO .ellipsis:=b5.extBut _ _ ap.oz.symm (b4.extBut _ _ ap.bz.symm (b3.extBut _ _ ap.oz.symm (b2.extBut _ _ ap.az.symm hz1)))
 have kp5:∀ c o,c≠z->c≠TO->c≠i1->c≠i2->s.heap.get? c=some o->g5.get? c=some o:=fun c o c1 c2 c3 c4 e=>b5.extBut _ _ c2 (b4.extBut _ _ c4 (b3.extBut _ _ c2 (b2.extBut _ _ c3 (b1.extBut _ _ c1 e))))
 have w1:S1 (k+1) g5:=draws_keep D1 (draws_keep D1 (draws_keep D1 s2 b3 ap.o1) b4 ap.b1) b5 ap.o1
 have w2:S2 (k+1) g5:=draws_keep D2 s4 b5 ap.o2
 have zlt:z<g5.objs.size:=Heap.lt_size hz5
 show wpAny _ _ (Builtin.SmallTypes.ownedTupleHandOut (.ref z) (.ref g5.objs.size)>>=_) _ _ _;refine wpAny_bind ?_;unfold Builtin.SmallTypes.ownedTupleHandOut
 have hz6:IsZip (g5.push { cls:=.type "tuple",data:=.seq #[x,y] }) z TI TO .ellipsis:=Heap.get?_push_of_some _ hz5
 refine wpAny_bind (wpAny_setField_rec hz6 (by simp) fun g7 hz7 b7=>?_)
 replace hz7:IsZip g7 z TI TO (rawInt g5.objs.size):=hz7
 refine wpAny_setField_rec hz7 (by simp) fun g8 hz8 b8=>?_
 replace hz8:IsZip g8 z TI TO (rawInt g5.objs.size):=hz8
 have up:∀ c o,c≠z->g5.get? c=some o->g8.get? c=some o:=fun c o c1 e=>b8.extBut _ _ c1 (b7.extBut _ _ c1 (Heap.get?_push_of_some _ e))
 have hP:IsPair g8 g5.objs.size x y:=b8.extBut _ _ (Nat.ne_of_gt zlt) (b7.extBut _ _ (Nat.ne_of_gt zlt) (Heap.get?_push_size _ rfl))
 rw [hsz] at hz8 hP
 refine wpAny_pure ⟨_,rfl,?_⟩;show Q (.ref g5.objs.size) _;rw [hsz]
 exact hQ g8 x y t4 px py hz8 (up _ _ ap.oz hT5) (D1.frame _ _ _ w1 fun c hc o e=>up c o (fun q=>ap.z1 (q▸hc)) e) (D2.frame _ _ _ w2 fun c hc o e=>up c o (fun q=>ap.z2 (q▸hc)) e) hP fun c o c1 c2 c3 c4 e=>up c o c1 (kp5 c o c1 c2 c3 c4 e)
theorem zipD_end{Q:Fin->Shared->Prop}(D1:Draws prog w A i1 f1 n1 P1 S1)(ap:ZApart z TI TO i1 i2 f1 f2)(hz:IsZip s.heap z TI TO .none)(hTI:IsPair s.heap TI (.ref i1) (.ref i2))(h1:S1 n1 s.heap)
  (hE:∀ h' e,(∀ c o,c≠z->c≠i1->s.heap.get? c=some o->h'.get? c=some o)->(∃ o,h'.get? e=some o/\o.cls=.type "StopIteration")->E (.ref e) { s with heap:=h' }):wpAny (model prog w) A (Builtin.«zip.__next__» ⟨[.ref z],[]⟩) Q E s:=by
 show wpAny _ _ (field (.ref z) 2>>=_) _ _ _;refine wpAny_bind (wpAny_field hz rfl (x:=.bool false) rfl ?_)
 show wpAny _ _ (field (.ref z) 3>>=_) _ _ _;refine wpAny_bind (wpAny_field hz rfl (x:=.ref TI) rfl ?_);refine wpAny_bind (wpAny_seqItems hTI rfl ?_)
 show wpAny _ _ (Builtin.SmallTypes.ownedTupleIsFree (.ref z)>>=_) _ _ _;refine wpAny_bind ?_;unfold Builtin.SmallTypes.ownedTupleIsFree
 refine wpAny_bind (wpAny_field hz rfl (x:=.none) rfl (wpAny_pure ?_));simp only [if_true];refine wpAny_bind (wpAny_rule ?_)
 refine wpAny_bind (wpAny_field hz rfl (x:=.ref TO) rfl ?_);refine wpAny_bind (wpAny_setField_rec hz (by simp) fun g1 hz1 b1=>?_)
 replace hz1:IsZip g1 z TI TO .ellipsis:=hz1
 refine wpAny_bind ?_;simp only [List.zipIdx_cons,List.zipIdx_nil,List.forIn_cons,List.forIn_nil]
 refine wpAny_bind (wpAny_bind (wpAny_onRaise ?_));show wpAny _ _ (Builtin.SmallTypes.nextOf (.ref i1)>>=_) _ _ _
 refine wpAny_bind (D1.done { s with heap:=g1 } _ _ (draws_keep D1 h1 b1 ap.z1) fun g2 e b2 he=>?_)
 obtain⟨oe,hoe,hce⟩:=he
 have hz2:IsZip g2 z TI TO .ellipsis:=b2 _ _ ap.az.symm hz1
 have hez:e≠z:=fun x=>by subst x;rw [hz2] at hoe;cases hoe;simp at hce
 exact wpAny_setField_rec hz2 (by simp) fun g3 _ b3=>hE g3 e (fun c o c1 c3 x=>b3.extBut _ _ c1 (b2 _ _ c3 (b1.extBut _ _ c1 x))) ⟨oe,b3.extBut _ _ hez hoe,hce⟩
theorem nextZ_item{Q:Option Value->Shared->Prop}(D1:Draws prog w A.in1 i1 f1 n1 P1 S1)(D2:Draws prog w A.in1 i2 f2 n2 P2 S2)(ap:ZApart z TI TO i1 i2 f1 f2)(hz:IsZip s.heap z TI TO .none)(hTI:IsPair s.heap TI (.ref i1) (.ref i2))(hTO:IsPair s.heap TO a b)(h1:S1 k s.heap)(h2:S2 k s.heap)(k1:k<n1)(k2:k<n2)
  (hQ:∀ (h':Heap) (x y:Value) (tk:Nat),P1 k x->P2 k y->IsZip h' z TI TO (rawInt s.heap.objs.size)->IsPair h' TO x y->S1 (k+1) h'->S2 (k+1) h'->IsPair h' s.heap.objs.size x y->(∀ c o,c≠z->c≠TO->c≠i1->c≠i2->s.heap.get? c=some o->h'.get? c=some o)->Q (some (.ref s.heap.objs.size)) { s with heap:=h',toks:=tk }) :
  wpAny (model prog w) A (pyNext (.ref z)) Q E s:=by
 have hT:s.TypeIs (.ref z) "zip":=⟨_,hz,rfl⟩
 unfold pyNext
 exact wpAny_bind (wpAny_attempt (wpAny_callSpecial?_slot (name:=Str.ofString "__next__") hT F.slot_zip_next (wpAny_call_entry F.slot_zip_next hT F.entry_zip_next (zipD_item D1 D2 ap hz hTI hTO h1 h2 k1 k2 fun h' x y tk q1 q2 q3 q4 q5 q6 q7 q8=>wpAny_pure (hQ h' x y tk q1 q2 q3 q4 q5 q6 q7 q8)) (F.args_zip_next_1 _))))
theorem nextZ_end{Q:Option Value->Shared->Prop}(D1:Draws prog w A.in1 i1 f1 n1 P1 S1)(ap:ZApart z TI TO i1 i2 f1 f2)(hz:IsZip s.heap z TI TO .none)(hTI:IsPair s.heap TI (.ref i1) (.ref i2))(h1:S1 n1 s.heap)
  (hQ:∀ h',(∀ c o,c≠z->c≠i1->s.heap.get? c=some o->h'.get? c=some o)->Q none { s with heap:=h' }):wpAny (model prog w) A (pyNext (.ref z)) Q E s:=by
 have hT:s.TypeIs (.ref z) "zip":=⟨_,hz,rfl⟩
 unfold pyNext
 refine wpAny_bind (wpAny_attempt (wpAny_callSpecial?_slot (name:=Str.ofString "__next__") hT F.slot_zip_next (wpAny_call_entry F.slot_zip_next hT F.entry_zip_next (zipD_end D1 ap hz hTI h1 fun h' e hk he=>?_) (F.args_zip_next_1 _))))
 obtain⟨o,ho,hc⟩:=he
 exact wpAny_bind (wpAny_isInstance (T:="StopIteration") (b:=true) ⟨o,ho,hc⟩ isSubtype_stop (wpAny_pure (hQ _ hk)))
end
abbrev zt1 (h:Heap) (l:Addr):Heap:=h.push { cls:=.type "tuple_iterator",data:=.fields #[.ref l,.int 0 0] }
abbrev zt3 (h:Heap) (l1 l2:Addr):Heap:=(zt1 (zt1 h l1) l2).push { cls:=.type "tuple",data:=.seq #[.ref h.objs.size,.ref (zt1 h l1).objs.size] }
abbrev zt4 (h:Heap) (l1 l2:Addr):Heap:=(zt3 h l1 l2).push { cls:=.type "tuple",data:=.seq #[.none,.none] }
abbrev zt5 (h:Heap) (l1 l2:Addr):Heap:=(zt4 h l1 l2).push { cls:=.type "zip",data:=.fields #[.none,.bool false,.bool false,.ref (zt1 (zt1 h l1) l2).objs.size,.ref (zt3 h l1 l2).objs.size] }
theorem meetsZT (l1 l2:Addr) (xs ys:Array Value):Meets (Builtin.«zip.__new__» ⟨[.type "zip",.ref l1,.ref l2],[]⟩) (fun _ R s=>s.heap.IsTuple l1 xs/\s.heap.IsTuple l2 ys/\R (.ok (.ret (.ref (zt4 s.heap l1 l2).objs.size))) { s with heap:=zt5 s.heap l1 l2 }):=.of_wp fun prog w A R s h=>by
  obtain⟨hp,g,d,tk,os⟩:=s;obtain⟨hl1,hl2,h⟩:=h;have hsub:=sub_zip
  have hL1:Heap.IsTuple (Shared.heap ⟨hp,g,d,tk,os⟩) l1 xs:=hl1
  have hL2:Heap.IsTuple (Shared.heap ⟨hp.push { cls:=.type "tuple_iterator",data:=.fields #[.ref l1,.int 0 0] },g,d,tk,os⟩) l2 ys:=Heap.IsTuple.push hl2 _
  wp_walk using wpAny_pyIter_tuple hL1,wpAny_pyIter_tuple hL2;exact⟨_,rfl,h⟩
theorem callZT{prog:Program}{w:World}{A:Around}{E:Value->Shared->Prop}{s:Shared}{l1 l2:Addr}{xs ys:Array Value}{Q:Value->Shared->Prop}(hl1:s.heap.IsTuple l1 xs)(hl2:s.heap.IsTuple l2 ys)
  (h:∀ h' n,n=s.heap.objs.size->IsZip h' (n+4) (n+2) (n+3) .none->IsPair h' (n+2) (.ref n) (.ref (n+1))->IsPair h' (n+3) .none .none->h'.IsTupleIter n l1 0->h'.IsTupleIter (n+1) l2 0->(∀ c o,s.heap.get? c=some o->h'.get? c=some o)->Q (.ref (n+4)) { s with heap:=h' }):wpAny (model prog w) A (call (.type "zip") [.ref l1,.ref l2]) Q E s:=by
 refine callType_new F.called_zip (by decide) (F.typeCall_zip_2 _ _) (F.newCall_zip_2 _ _) (fun obj=>F.args_object_init_3 obj _ _) F.entry_zip_new (meetsZT l1 l2 xs ys) ⟨hl1,hl2,?_⟩
 have z1:(zt1 s.heap l1).objs.size=s.heap.objs.size+1:=Heap.size_push ..
 have z2:(zt1 (zt1 s.heap l1) l2).objs.size=s.heap.objs.size+2:=by rw [Heap.size_push,z1]
 have z3:(zt3 s.heap l1 l2).objs.size=s.heap.objs.size+3:=by rw [Heap.size_push,z2]
 have z4:(zt4 s.heap l1 l2).objs.size=s.heap.objs.size+4:=by rw [Heap.size_push,z3]
 have g5:(zt5 s.heap l1 l2).get? (zt4 s.heap l1 l2).objs.size=some _:=Heap.get?_push_size _ rfl
 have g4:(zt5 s.heap l1 l2).get? (zt3 s.heap l1 l2).objs.size=some _:=Heap.get?_push_of_some _ (Heap.get?_push_size _ rfl)
 have g3:(zt5 s.heap l1 l2).get? (zt1 (zt1 s.heap l1) l2).objs.size=some _:=Heap.get?_push_of_some _ (Heap.get?_push_of_some _ (Heap.get?_push_size _ rfl))
 have g2:(zt5 s.heap l1 l2).get? (zt1 s.heap l1).objs.size=some _:=Heap.get?_push_of_some _ (Heap.get?_push_of_some _ (Heap.get?_push_of_some _ (Heap.get?_push_size _ rfl)))
 have g1:(zt5 s.heap l1 l2).get? s.heap.objs.size=some _:=Heap.get?_push_of_some _ (Heap.get?_push_of_some _ (Heap.get?_push_of_some _ (Heap.get?_push_of_some _ (Heap.get?_push_size _ rfl))))
 show _/\_;rw [z2,z3,z4] at g5;rw [z1,z2] at g3;rw [z3] at g4;rw [z1] at g2;rw [z4]
 exact⟨⟨_,g5,rfl⟩,h _ _ rfl g5 g3 g4 ⟨_,g1,rfl,rfl⟩ ⟨_,g2,rfl,rfl⟩ fun c o x=>Heap.get?_push_of_some _ (Heap.get?_push_of_some _ (Heap.get?_push_of_some _ (Heap.get?_push_of_some _ (Heap.get?_push_of_some _ x))))⟩
def ItZT(K:PySem.W.Frag)(a b:Addr):It:=
  ⟨fun i H=>∃ xs ys x y,SqT K H a xs/\SqT K H b ys/\xs[i]? = some x/\ys[i]? = some y,
   fun i H v H'=>∃ p x y,H p=none/\(∀ xs,SqT K H a xs->xs[i]? = some x)/\(∀ ys,SqT K H b ys->ys[i]? = some y)/\v=.ref p/\H'=upd H p (.tup [x,y]),
   fun i H=>∃ xs,SqT K H a xs/\xs.length=i⟩
theorem turn_zipT {P : Program} {w : World} {K : PySem.W.Frag} {elts : List Expr} {x1 : Nat} {pos : Pos} (n a b : Addr) (ha : a < n) (hb : b < n) :
    Turn P w K (.Tuple elts x1 pos) (ItZT K a b) [n + 4, n + 2, n + 3, n, n + 1] (n + 4) (fun i h => IsZip h (n + 4) (n + 2) (n + 3) .none ∧ IsPair h (n + 2) (.ref n) (.ref (n + 1)) ∧ (∃ u v, IsPair h (n + 3) u v) ∧ h.IsTupleIter n a i ∧ h.IsTupleIter (n + 1) b i) := by
  have hap : ZApart (n + 4) (n + 2) (n + 3) n (n + 1) [n, a] [n + 1, b] := by
    have h1 : @LT.lt Nat _ a n := ha
    have h2 : @LT.lt Nat _ b n := hb
    constructor <;> first
      | (intro h; simp only [List.mem_cons, List.not_mem_nil, or_false] at h; rcases h with h | h <;> (have h' : @Eq Nat _ _ := h; omega))
      | (intro h; have h' : @Eq Nat _ _ := h; omega)
  exact {
    mem := by simp
    obj := fun i h st c hb => by
      obtain ⟨h1, h2, ⟨u, v, h3⟩, ⟨o4, e4, c4, d4⟩, ⟨o5, e5, c5, d5⟩⟩ := st
      simp only [List.mem_cons, List.not_mem_nil, or_false] at hb
      rcases hb with rfl | rfl | rfl | rfl | rfl
      · exact ⟨_, h1, fun v z => by cases z⟩
      · exact ⟨_, h2, fun v z => by cases z⟩
      · exact ⟨_, h3, fun v z => by cases z⟩
      · exact ⟨o4, e4, fun v z => by rw [d4] at z; cases z⟩
      · exact ⟨o5, e5, fun v z => by rw [d5] at z; cases z⟩
    keep := fun i h h' st k => by
      obtain ⟨h1, h2, ⟨u, v, h3⟩, h4, h5⟩ := st
      exact ⟨k _ (by simp) _ h1, k _ (by simp) _ h2, ⟨u, v, k _ (by simp) _ h3⟩, h4.at fun o e => k _ (by simp) o e, h5.at fun o e => k _ (by simp) o e⟩
    item := by
      intro X hP hw hK hc i pins s σ H E I hf st hg
      subst hP hw hK
      obtain ⟨h1, h2, ⟨u0, v0, h3⟩, h4, h5⟩ := st
      obtain ⟨xs, ys, x, y, hqa, hqb, hx, hy⟩ := hg
      obtain ⟨ia, ra, pa, _⟩ := I.tuple hqa
      obtain ⟨ib, rb, pb, _⟩ := I.tuple hqb
      obtain ⟨ua, hua, rua⟩ := ra.get hx
      obtain ⟨ub, hub, rub⟩ := rb.get hy
      have hA : X.A.in1.handled = none := I.ok.hd hc
      have la : i < ia.toArray.size := by rw [List.size_toArray]; exact (List.getElem?_eq_some_iff.mp hua).1
      have lb : i < ib.toArray.size := by rw [List.size_toArray]; exact (List.getElem?_eq_some_iff.mp hub).1
      refine nextZ_item (Draws.tup hA n a (Nat.ne_of_lt ha) ia.toArray) (Draws.tup hA (n + 1) b (Nat.ne_of_lt (Nat.lt_succ_of_lt hb)) ib.toArray) hap h1 h2 h3 ⟨h4, pa⟩ ⟨h5, pb⟩ la lb fun h' x' y' tk e1 e2 hz ho hi1 hi2 hp kp => ?_
      have e1' : x' = ua := by have : ia[i]? = some x' := by simpa using e1
                               rw [hua] at this; cases this; rfl
      have e2' : y' = ub := by have : ib[i]? = some y' := by simpa using e2
                               rw [hub] at this; cases this; rfl
      subst e1' e2'
      refine ⟨_, rfl, wpAny_letOwnedTupleGo_zip hz fun hh hz2 hs2 => ?_⟩
      have hn : H s.heap.objs.size = none := I.hok.fresh (Nat.le_refl _)
      have lz : s.heap.objs.size ≠ n + 4 := Nat.ne_of_gt (Heap.lt_size h1)
      have ht2 : hh.get? s.heap.objs.size = some { cls := .type "tuple", data := .seq #[x', y'] } := (hs2.2 _ lz).trans hp
      refine ⟨.ref s.heap.objs.size, upd H s.heap.objs.size (.tup [x, y]), I.turnNew (fp := [n + 4, n + 2, n + 3, n, n + 1]) hf (fun c o hb q => ?_) (Nat.le_refl _) (show ObjOk X.prog X.w _ hh _ (.tup _) from ⟨(by show 2 ≤ sizeLine; decide), [x', y'], .cons rua (.cons rub .nil), _, ht2, rfl, _, rfl⟩), rfl, ⟨_, x, y, hn, fun zs hz => by rw [I.tuple_inj hz hqa]; exact hx, fun zs hz => by rw [I.tuple_inj hz hqb]; exact hy, rfl, rfl⟩, ?_, fun c hb => ?_⟩
      · simp only [List.mem_cons, List.not_mem_nil, or_false, not_or] at hb
        exact (hs2.2 c hb.1).trans (kp c o hb.1 hb.2.2.1 hb.2.2.2.1 hb.2.2.2.2 q)
      · exact ⟨hz2, (hs2.2 _ hap.tz).trans (kp _ _ hap.tz hap.to hap.ta hap.tb h2), ⟨_, _, (hs2.2 _ hap.oz).trans ho⟩, hi1.1.at fun o e => (hs2.2 _ hap.az).trans e, hi2.1.at fun o e => (hs2.2 _ hap.bz).trans e⟩
      · have hb' := (hf c hb).1
        rw [upd_ne (fun z => ?_)]
        · exact hb'
        · have hz4 : @LT.lt Nat _ (n + 4) s.heap.objs.size := Heap.lt_size h1
          have z' : @Eq Nat c s.heap.objs.size := z
          simp only [List.mem_cons, List.not_mem_nil, or_false] at hb
          rcases hb with h | h | h | h | h <;> (have h' : @Eq Nat _ _ := h; omega)
    done := by
      intro X hP hw hK hc i pins s σ H E I hf st hg
      subst hP hw hK
      obtain ⟨h1, h2, ⟨u0, v0, h3⟩, h4, h5⟩ := st
      obtain ⟨xs, hqa, hx⟩ := hg
      obtain ⟨ia, ra, pa, _⟩ := I.tuple hqa
      have la := ra.length
      have hA : X.A.in1.handled = none := I.ok.hd hc
      have ei : ia.toArray.size = i := by rw [List.size_toArray]; omega
      refine nextZ_end (Draws.tup hA n a (Nat.ne_of_lt ha) ia.toArray) hap h1 h2 ⟨by rw [ei]; exact h4, pa⟩ fun h' kp => ⟨rfl, I.turnAll (t' := s.toks) hf fun c o hb q => ?_⟩
      simp only [List.mem_cons, List.not_mem_nil, or_false, not_or] at hb
      exact kp c o hb.1 hb.2.2.2.1 q
    self := fun _ _ _ _ _ st h => wpAny_pyIter_zip st.1 h }
def iZipT(K:PySem.W.Frag)(ta:TA):TI:=fun σ H R=>ta σ H fun vs H1=>∃ a b,vs=[.ref a,.ref b]/\(∃ xs,SqT K H1 a xs)/\(∃ ys,SqT K H1 b ys)/\R (ItZT K a b) H1
theorem qpi_zipT {X:Cx} {a b:Expr} {ta:TA} {elts:List Expr} {x1:Nat} {p pos tpos:Pos} (hg:Gl X "zip") (hm:X.mg "zip"=none) (ha:QA X [a,b] ta) (hs:starEach [a,b] X.env=(false,eval a X.env)::starEach [b] X.env:=by rfl) (hpl:(backTo pos (starEach [b] X.env)).any (·.1)=false:=by rfl) :
  QI X (.Tuple elts x1 tpos) (.Call (.Name "zip" p) [a,b] [] pos) (iZipT X.K ta):=⟨by
 intro pins s σ H R I h
 refine Call_ (ld_blt I hg hm boot_zip (PyProof.Rows.callWith_type1 (thn (ha.h pos pins s σ H _ I h) fun us s1 ⟨vs,H1,I1,r1,z1,z2,e,⟨xs,hx⟩,⟨ys,hy⟩,q⟩=>?_) hs hpl))
 subst e
 obtain⟨u,u',rfl,r2,r3⟩:=vals2 r1
 cases r2
 cases r3
 obtain⟨ia,ra,pa,_⟩:=I1.tuple hx
 obtain⟨ib,rb,pb,_⟩:=I1.tuple hy
 have ha':s1.heap.IsTuple z1 ia.toArray:=pa
 have hb':s1.heap.IsTuple z2 ib.toArray:=pb
 obtain⟨oa,hoa,_⟩:=id ha'
 obtain⟨ob,hob,_⟩:=id hb'
 refine callZT ha' hb' fun h' n en hz hti hto hi1 hi2 kp=>?_
 refine wpAny_pyIter_zip hz ?_
 have I2:Inv X pins σ H1 { s1 with heap:=h' }:=I1.kept (t':=s1.toks) kp
 refine⟨_,_,_,_,H1,rfl,I2,turn_zipT n z1 z2 (by rw [en];exact Heap.lt_size hoa) (by rw [en];exact Heap.lt_size hob),⟨hz,hti,⟨_,_,hto⟩,hi1,hi2⟩,fun b hb=>?_,q⟩
 have hle:s1.heap.objs.size<=b:=by
  simp only [List.mem_cons,List.not_mem_nil,or_false] at hb
  have en':@Eq Nat n s1.heap.objs.size:=en
  show @LE.le Nat _ _ _
  rcases hb with h | h | h | h | h<;>(have h':@Eq Nat _ _:=h;omega)
 exact I1.fpOk hle (I1.hok.fresh hle)⟩
theorem w_forZT{K:PySem.W.Frag}{σ:St}{H:Hp}{D:Ends}{ta:TA}{g:TG}{tb:TS}:tFor (iZipT K ta) g tb D σ H=ta σ H fun vs H1=>∃ a b,vs=[.ref a,.ref b]/\(∃ xs,SqT K H1 a xs)/\(∃ ys,SqT K H1 b ys)/\ForJ (ItZT K a b) g tb D σ H1:=rfl
theorem for_zipT{K:PySem.W.Frag}{σ:St}{H:Hp}{D:Ends}{a b:Addr}{xs ys:List V}{g:TG}{tb:TS}(hle:xs.length<=ys.length)(Pv:Nat->St->Hp->Prop)(h0:Pv 0 σ H)(hl:∀ i σ H,Pv i σ H->SqT K H a xs/\SqT K H b ys)
  (hs:∀ i x y σ H p,xs[i]? = some x->ys[i]? = some y->Pv i σ H->H p=none->g (.ref p) σ (upd H p (.tup [x,y])) fun σ2 H2=>tb { D with nx:=Pv (i+1),ct:=Pv (i+1),bk:=D.nx } σ2 H2) (hd:∀ σ H,Pv xs.length σ H->D.nx σ H):ForJ (ItZT K a b) g tb D σ H:=by
 refine⟨fun i m σ H=>m+i=xs.length/\Pv i σ H,⟨xs.length,rfl,h0⟩,?_⟩
 rintro i m σ H ⟨hm,hp⟩
 obtain⟨q1,q2⟩:=hl i σ H hp
 by_cases hi:i<xs.length
 ·refine .inr ⟨⟨xs,ys,xs[i],ys[i],q1,q2,by simp [hi],by simp [Nat.lt_of_lt_of_le hi hle]⟩,Pv (i+1),fun σ' H' h=>⟨m - 1,by omega,by omega,h⟩,?_⟩
  rintro v H' ⟨p,x,y,hn,hx,hy,rfl,rfl⟩
  exact hs i x y σ H p (hx xs q1) (hy ys q2) hp hn
 ·have e:i=xs.length:=by omega
  subst e
  exact .inl ⟨⟨xs,q1,rfl⟩,hd σ H hp⟩
end L2
namespace L2
open PySem PySem.Spec PyProof.Rows
def tTry0(sp:Sp)(K:PySem.W.Frag)(c:Value)(t:TA)(ts:Addr->TS):TS:=fun D σ H=>t σ H fun vs H1=>sp vs H1 (fun _ H2=>D.nx σ H2) fun cls dO H2=>
 ∃ C,cls=Value.ref C/\PySem.W.exmOne K (.ref C) c=some true/\∀ a,H2 a=none->ts a D σ (upd H2 a (excD dO C a))
theorem w_try0{sp:Sp}{K:PySem.W.Frag}{c:Value}{t:TA}{ts:Addr->TS}{D:Ends}{σ:St}{H:Hp}:tTry0 sp K c t ts D σ H=t σ H fun vs H1=>sp vs H1 (fun _ H2=>D.nx σ H2) fun cls dO H2=>
 ∃ C,cls=Value.ref C/\PySem.W.exmOne K (.ref C) c=some true/\∀ a,H2 a=none->ts a D σ (upd H2 a (excD dO C a)):=rfl
end L2
namespace L2
open PySem
theorem w_dget2{td ty tx:TE}{σ:St}{H:Hp}{Q:VK}:tDGet2 td ty tx σ H Q=td σ H fun x H1=>∃ a,x=.ref a/\IsD H1 a/\ty σ H1 fun y H2=>tx σ H2 fun z H3=>∃ o,DGet H3 a y o/\Q (o.getD z) H3:=rfl
end L2
namespace Rm
open PySem L2
structure View where
 φ:Hp->Hp
 ok:Hp->Prop
 new:∀ {H t o},ok H->H t=none->ok (upd H t o)/\Same (φ H) (φ (upd H t o))/\φ (upd H t o) t=some o
def View.all:View:=⟨id,fun _=>True,fun _ h=>⟨trivial,(Same.refl _).new h,upd_same⟩⟩
def View.but(m:Addr):View:=⟨fun H=>wo H m,fun H=>∃ o,H m=some o,fun {H t o} ⟨u,hu⟩ h=>⟨⟨u,by rw [upd_ne (ne_of_none hu h)];exact hu⟩,wo_new h,wo_at (ne_of_none hu h).symm upd_same⟩⟩
structure DE (w:View) (σ:St) (H0:Hp) (te:TE) (d:PyData):Prop where
 run:∀ (H:Hp) (Q:VK),w.ok H->Same H0 H->Same (w.φ H0) (w.φ H)->(∀ x H',w.ok H'->Same H H'->Same (w.φ H) (w.φ H')->Dat (w.φ H') x d->Q x H')->te σ H Q
structure DA (w:View) (σ:St) (H0:Hp) (ta:TA) (ds:List PyData):Prop where
 run:∀ (H:Hp) (Q:List V->Hp->Prop),w.ok H->Same H0 H->Same (w.φ H0) (w.φ H)->(∀ xs H',w.ok H'->Same H H'->Same (w.φ H) (w.φ H')->DatL (w.φ H') xs ds->Q xs H')->ta σ H Q
end Rm
namespace Rm
open PySem L2 PyProof.Rows
section
variable {σ:L2.St} {H0:Hp} {K:PySem.W.Frag}
abbrev D1 (σ:L2.St) (H0:Hp) (te:TE) (d:PyData):Prop:=DE View.all σ H0 te d
abbrev D2 (σ:L2.St) (H0:Hp) (ta:TA) (ds:List PyData):Prop:=DA View.all σ H0 ta ds
end
end Rm
namespace Rm
open PySem L2 PyProof.Rows
def mxZ(ns:List Int):Int:=ns.foldl max 0
theorem paired_imp{α β:Type}{R T:α->β->Prop}(f:∀ a b,R a b->T a b):∀ {xs:List α} {ys:List β},Paired R xs ys->Paired T xs ys
 | _,_,.nil=>.nil
 | _,_,.cons r t=>.cons (f _ _ r) (paired_imp f t)
theorem paired_get{α β:Type}{R:α->β->Prop}:∀ {xs:List α} {ys:List β},Paired R xs ys->∀ {i:Nat} {x:α},xs[i]? = some x->∃ y,ys[i]? = some y/\R x y
 | _,_,.nil,i,x,h=>by simp at h
 | _,_,.cons r t,0,x,h=>by simp at h;subst h;exact⟨_,rfl,r⟩
 | _,_,.cons r t,i+1,x,h=>paired_get t (by simpa using h)
end Rm
namespace Rm
open PySem L2 PyProof.Rows
def CrossT(H:Hp)(t:Addr)(u:Bool)(p q:Bw):Prop:=∃ a c,H t=some (.tup [.str (sd u),.ref a,.ref c])/\tupAt H a p/\tupAt H c q
def spCrossed:Sp:=fun vs H Q _=>∃ m o b ns,vs=[.ref m]/\MazeAt H m o b ns/\Ord ns/\(NC b ns->∀ H',Same H H'->Q .non H') ∧
 ∀ u,∀ p∈sideBows b ns u (ns.length+1),∀ q∈sideBows b ns u (ns.length+1),crossZ p q=true->∀ t H',Same H H'->CrossT H' t u p q->Q (.ref t) H'
def mzD(b:Bool)(ns:List Int):PyData:=.tuple [.str (sd b),.tuple (ns.map PyData.int)]
theorem MazeAt.dat{H:Hp}{m o:Addr}{b:Bool}{ns:List Int}(h:MazeAt H m o b ns):Dat H (.ref m) (mzD b ns):=.tup h.1 (.cons (.str _) (.cons (.tup h.2 (ints_dat ns)) .nil))
theorem mzD_ok{b:Bool}{ns:List Int}(O:Ord ns):mazeD (mzD b ns)=true:=by
 show (sideD (.str (sd b))&&orderD (.tuple (ns.map PyData.int)))=true
 have e1:sideD (.str (sd b))=true:=by cases b<;>decide +kernel
 have e2:(ns.map PyData.int).map intOf=ns:=by rw [List.map_map];show ns.map id=ns;exact List.map_id _
 have e3:(ns.map PyData.int).all wholeD=true:=by rw [List.all_map,List.all_eq_true];intro _ _;rfl
 rw [e1,Bool.true_and]
 show (decide ((ns.map PyData.int).length<=20)&&((ns.map PyData.int).all wholeD&&((ns.map PyData.int).map intOf).isPerm (rngZ 1 (ns.map PyData.int).length)))=true
 rw [e2,e3,List.length_map,decide_eq_true O.len,List.isPerm_iff.mpr O.perm]
 rfl
theorem mzD_pl{b:Bool}{ns:List Int}:Pl (mzD b ns) 60:=by
 refine⟨?_,?_⟩
 ·show (PyData.canLay0 (.str (sd b))&&(PyData.canLayAll0 (ns.map PyData.int)&&true))=true
  rw [ints_layAll];cases b<;>decide +kernel
 ·show max 0 (max (PyData.depthAll (ns.map PyData.int)+1) 0)+1<=60
  rw [ints_depth];decide
theorem pl1{d:PyData}{k:Nat}(h:Pl d k):∀ e∈[d],Pl e k:=fun e he=>by rw [List.mem_singleton] at he;subst he;exact h
theorem pl2{d e:PyData}{k:Nat}(h:Pl d k)(g:Pl e k):∀ f∈[d,e],Pl f k:=fun f hf=>by
 rcases List.mem_cons.mp hf with rfl | hf
 ·exact h
 ·exact pl1 g f hf
theorem pl3{d e f:PyData}{k:Nat}(h:Pl d k)(g:Pl e k)(i:Pl f k):∀ x∈[d,e,f],Pl x k:=fun x hx=>by
 rcases List.mem_cons.mp hx with rfl | hx
 ·exact h
 ·exact pl2 g i x hx
def scal:PyData->Bool
 | .none | .bool _ | .int _ | .str _=>true
 | _=>false
end Rm
namespace L2
open PySem PySem.Spec PyProof.Rows
def excObj(dO:Option Addr)(C t:Addr):Obj:=⟨.ref C,dO,.fields #[.ref t,.none,.none,.none,.bool false,.none],#[]⟩
def selfO(dO:Option Addr)(C e:Addr):HO:=.ext fun h=>∃ t,h.get? e=some (excObj dO C t)
def tInitB(C:Addr)(t:TA):TE:=fun σ H Q=>t σ H fun vs H1=>∃ e v,vs=[.ref e,v]/\H1 e=some (selfO none C e)/\Q .non H1
def sFldE(C:Addr)(f:Str)(ta tv:TE):TS:=fun D σ H=>tv σ H fun y H1=>ta σ H1 fun x H2=>∃ e,x=.ref e/\H2 e=some (selfO none C e)/\∀ dx,H2 dx=none->dx≠e->D.nx σ (upd (upd H2 dx (.xd [(f,y)])) e (selfO (some dx) C e))
def tRaiseV(C:Addr)(f:Str)(ok:V->Hp->Prop)(E:XK)(t:TA):TS:=fun _ σ H=>t σ H fun vs H1=>∃ v,vs=[v]/\ok v H1/\∀ dx,H1 dx=none->E (.ref C) (some dx) (upd H1 dx (.xd [(f,v)]))
structure ExcA (K:PySem.W.Frag) (C:Addr) (f:Str):Prop where
 ga:PySem.W.findIn K (.ref C) "__getattribute__"=some (some (.builtin "BaseException.__getattribute__"))
 gt:PySem.W.findIn K (.ref C) "__getattr__"=some none
 no:PySem.W.findIn K (.ref C) f=some none
 hd:PySem.W.hasDictIn K C=true
 own:∃ B bmB,ExcAttrBase B bmB/\∀ h:Heap,K.In h->∃ nm q N bs bm hdct sn sub ab col dd k0 k1 k2 k3 k5 newId,h.get? C=some (excClassObj nm q C N bs bm hdct sn sub ab col dd k0 k1 k2 k3 k5 newId)/\OwnTailQ h bmB bm
def tExcA(K:PySem.W.Frag)(f:Str)(ta:TE):TE:=fun σ H Q=>ta σ H fun x H1=>∃ a C dx v,x=.ref a/\H1 a=some (excD (some dx) C a)/\H1 dx=some (.xd [(f,v)])/\ExcA K C f/\Q v H1
end L2
namespace L2
open PySem PySem.Spec PyProof.Rows
section
variable {σ:St} {H:Hp} {Q:VK} {D:Ends}
theorem w_initB{C:Addr}{t:TA}:tInitB C t σ H Q=t σ H fun vs H1=>∃ e v,vs=[.ref e,v]/\H1 e=some (selfO none C e)/\Q .non H1:=rfl
theorem w_setE{C:Addr}{f:Str}{ta tv:TE}:sFldE C f ta tv D σ H=tv σ H fun y H1=>ta σ H1 fun x H2=>∃ e,x=.ref e/\H2 e=some (selfO none C e)/\∀ dx,H2 dx=none->dx≠e->D.nx σ (upd (upd H2 dx (.xd [(f,y)])) e (selfO (some dx) C e)):=rfl
theorem w_raiseV{C:Addr}{f:Str}{ok:V->Hp->Prop}{E:XK}{t:TA}:tRaiseV C f ok E t D σ H=t σ H fun vs H1=>∃ v,vs=[v]/\ok v H1/\∀ dx,H1 dx=none->E (.ref C) (some dx) (upd H1 dx (.xd [(f,v)])):=rfl
theorem w_excA{K:PySem.W.Frag}{f:Str}{ta:TE}:tExcA K f ta σ H Q=ta σ H fun x H1=>∃ a C dx v,x=.ref a/\H1 a=some (excD (some dx) C a)/\H1 dx=some (.xd [(f,v)])/\ExcA K C f/\Q v H1:=rfl
end
end L2
namespace L2
open PySem PySem.Spec PyProof.Rows
theorem vals_refs:∀ {cs:List Addr} {us:List Value},Vals (cs.map V.ref) us->us=cs.map Value.ref
 | [],_,.nil=>rfl
 | c::cs,_,.cons r t=>by
  rw [vals_refs t]
  cases r
  rfl
end L2
namespace L2
open PySem PySem.Spec PyProof.Rows
def okC(v:V)(H:Hp):Prop:=∃ a d,v=.ref a/\Dat H v d/\d.showable=true/\d.hasDict=false/\d.depth<=10/\d.shown.length<=500
def tFsR(ta tb:TE):TE:=fun σ H Q=>ta σ H fun x H1=>∃ c,x=.str c/\c.length<=400/\tb σ H1 fun y H2=>okC y H2/\∀ z,Q (.str z) H2
theorem w_fsR{σ:St}{H:Hp}{Q:VK}{ta tb:TE}:tFsR ta tb σ H Q=ta σ H fun x H1=>∃ c,x=.str c/\c.length<=400/\tb σ H1 fun y H2=>okC y H2/\∀ z,Q (.str z) H2:=rfl
end L2
namespace Rm
open PySem L2 PyProof.Rows
structure Pls (S:List Bw) (n:Int):Prop where
 lt:∀ p∈S,p.1<p.2
 bd:∀ p∈S,0<=p.1/\p.2<=n+1
 has:∀ x,1<=x->x<=n->∃ p∈S,p.1=x\/p.2=x
 one:∀ p∈S,∀ q∈S,∀ x,(p.1=x\/p.2=x)->(q.1=x\/q.2=x)->p=q
 nc:∀ p∈S,∀ q∈S,crossZ p q=false
theorem has_of{x:Int}{p:Bw}:hasR x p=true<->(p.1=x\/p.2=x):=by
 unfold hasR
 rw [Bool.or_eq_true,decide_eq_true_eq,decide_eq_true_eq]
 exact⟨fun h=>h.imp Eq.symm Eq.symm,fun h=>h.imp Eq.symm Eq.symm⟩
theorem side_pls{b:Bool}{ns:List Int}(O:Ord ns)(nc:NC b ns)(u:Bool):Pls (sideBows b ns u (ns.length+1)) ns.length where
 lt:=fun p hp=>by obtain⟨i,hi,_,rfl⟩:=side_mem hp;exact O.step_lt (by omega)
 bd:=fun p hp=>by obtain⟨i,hi,_,rfl⟩:=side_mem hp;exact O.step_in (by omega)
 has:=fun x h1 h2=>by
  obtain⟨i,hi⟩:=List.getElem?_of_mem (O.mem.mpr ⟨h1,h2⟩)
  have il:=(List.getElem?_eq_some_iff.mp hi).1
  have er:=rowZ_ring hi
  have:onSide b u i=true\/onSide b u (i+1)=true:=by
   unfold onSide
   rw [odd_succ]
   cases b<;>cases u<;>cases odd i<;>simp
  rcases this with s | s
  ·refine⟨_,side_has (by omega) s,?_⟩
   rw [<-has_of,<-er,O.has_iff (by omega) (by omega)];simp
  ·refine⟨_,side_has (by omega) s,?_⟩
   rw [<-has_of,<-er,O.has_iff (by omega) (by omega)];simp
 one:=fun p hp q hq x h1 h2=>by
  obtain⟨i,hi,si,rfl⟩:=side_mem hp
  obtain⟨j,hj,sj,rfl⟩:=side_mem hq
  have hx:∃ k,k<ns.length+2/\x=rowZ ns k/\(i=k\/i+1=k):=by
   have e:x=rowZ ns i\/x=rowZ ns (i+1):=by
    have h1':min (rowZ ns i) (rowZ ns (i+1))=x\/max (rowZ ns i) (rowZ ns (i+1))=x:=h1
    omega
   rcases e with e | e
   ·exact⟨i,by omega,e,.inl rfl⟩
   ·exact⟨i+1,by omega,e,.inr rfl⟩
  obtain⟨k,hk,rfl,ik⟩:=hx
  have h2':=has_of.mpr h2
  rw [O.has_iff hk (by omega)] at h2'
  have jk:=of_decide_eq_true h2'
  have:i=j\/i=j+1\/j=i+1:=by omega
  rcases this with z | z | z
  ·rw [z]
  ·exact absurd z fun z=>odd_ne si sj z
  ·exact absurd z fun z=>odd_ne sj si z
 nc:=nc u
theorem side_bd{b:Bool}{ns:List Int}(O:Ord ns){u:Bool}{p:Bw}(hp:p∈sideBows b ns u (ns.length+1)):0<=p.1/\p.1<p.2/\p.2<=21:=by
 obtain⟨i,hi,_,rfl⟩:=side_mem hp
 have h1:=O.step_in (i:=i) (by omega)
 have h2:=O.step_lt (i:=i) (by omega)
 have:=O.len
 exact⟨h1.1,h2,by omega⟩
end Rm
namespace Rm
open PySem L2
theorem pair_get{α β:Type}{F:α->β->Prop}{l:List α}{m:List β}(h:Paired F l m):∀ {i:Nat} {a:α},l[i]? = some a->∃ b,m[i]? = some b/\F a b:=by
 induction h with
 | nil=>intro i a h;simp at h
 | cons r _ ih=>
  intro i a h
  cases i with
  | zero=>cases h;exact⟨_,rfl,r⟩
  | succ i=>exact ih h
end Rm
namespace Rm
def sgz(pre:List Int)(x:Int):Nat:=if 0<x then (if x∈pre then 41 else 40) else 42
def sgp:List Int->List Int->List Nat
 | _,[]=>[]
 | pre,x::r=>sgz pre x::sgp (pre++[x]) r
def vl(c:Nat):Int:=if c=40 then 1 else if c=41 then -1 else 0
def ps(cs:List Nat):Int:=(cs.map vl).sum
section
variable {lo hi x y:Int}
theorem off{l:List Int}(h1:x∉l)(h2:y∉l):∀ v∈l,v≠x/\v≠y:=fun v hv=>⟨fun e=>h1 (e▸hv),fun e=>h2 (e▸hv)⟩
end
def mx:List Int->Int
 | []=>0
 | x::l=>max x (mx l)
end Rm
namespace L2
open PySem PySem.Spec PyProof.Rows PySem.Builtin PySem.Builtin.Str
section
variable {X:Cx}
def rMaxL(K:PySem.W.Frag):List V->Hp->VK->Prop:=fun xs H Q=>∃ (p:Addr) (ns:List Int),xs=[.ref p]/\SqL K H p (ns.map V.int)/\0<ns.length/\∀ M,M∈ns->(∀ a∈ns,a<=M)->Q (.int M) H
theorem call_max_l (hc:X.calm=true):CallR X (.builtin "max") (rMaxL X.K):=by
 intro pins s σ H xs us Q I r h
 obtain⟨p,ns,rfl,hq,hn,q⟩:=h
 obtain⟨u,rfl,rx⟩:=vals1 r
 cases rx
 obtain⟨its,rv,pl,hz⟩:=I.list hq
 have hi:=ints_are rv
 have hl:=pl.isList
 obtain⟨xs,e⟩:=hi.allInts.items
 have hns:ns=xs.toList.map (·.1):=by rw [<-hi.numsOf,<-nums_intItems,<-e]
 have hsz:0<xs.size:=by
  have h3:=hn;rw [hns,List.length_map,Array.length_toList] at h3;exact h3
 rw [e] at hl
 refine max_intList (I.ok.hd hc) hl hsz fun v h' tk hv hk=>?_
 obtain⟨t,rfl⟩:=intItems_at hv
 obtain⟨h1,h2⟩:=argBest_gt (numAt xs) (xs.size - 1)
 refine⟨.int _,H,I.kept hk,⟨t,rfl⟩,q _ ?_ fun a ha=>?_⟩
 ·rw [hns,numAt_eq];exact getD_mem (by rw [List.length_map,Array.length_toList];omega)
 ·rw [hns] at ha
  obtain⟨j,hj,rfl⟩:=mem_getD ha
  rw [List.length_map,Array.length_toList] at hj
  rw [<-numAt_eq];exact h2 j (by omega)
end
end L2
namespace Rm
open PySem L2
def tx(cs:List Nat):Str:=⟨cs.toArray⟩
def sg1(c:Nat):V:=V.str ⟨#[c]⟩
theorem tx_len(cs:List Nat):(tx cs).length=cs.length:=by simp [tx,Str.length]
theorem tx_inj{a b:List Nat}(h:tx a=tx b):a=b:=by
 have:=congrArg (fun z:Str=>z.cps.toList) h
 simpa [tx] using this
theorem eq_one{a b:Nat}:((⟨#[a]⟩:Str)=tx [b])=(a=b):=propext ⟨fun h=>by have:=tx_inj (show tx [a]=tx [b] from h);simpa using this,fun h=>by rw [h];rfl⟩
theorem tx_fold:∀ (cs:List Nat) (acc:Array Nat),(cs.map fun c=>(⟨#[c]⟩:Str)).foldl (fun acc p=>acc++(Str.ofString "").cps++p.cps) acc=acc++cs.toArray
 | [],acc=>by simp
 | c::cs,acc=>by
  rw [List.map_cons,List.foldl_cons,tx_fold cs]
  have:(Str.ofString "").cps=#[]:=by decide +kernel
  rw [this]
  simp
theorem tx_join (cs:List Nat):Txt.join (Str.ofString "") (cs.map fun c=>(⟨#[c]⟩:Str))=tx cs:=by
 cases cs with
 | nil=>rfl
 | cons c cs=>
  show Str.mk (((((c::cs).map fun c=>(⟨#[c]⟩:Str)).drop 1).foldl (fun acc p=>acc++(Str.ofString "").cps++p.cps) (((c::cs).map fun c=>(⟨#[c]⟩:Str)).headD Str.empty).cps))=_
  rw [List.map_cons,List.drop_one,List.tail_cons,List.headD_cons,tx_fold]
  simp [tx]
theorem tx_joinOk {cs:List Nat} (hl:cs.length<=900):JoinOk (Str.ofString "") (cs.map fun c=>(⟨#[c]⟩:Str))=true:=by
 unfold JoinOk
 have e:Builtin.Str.tooLong ((cs.map fun c=>(⟨#[c]⟩:Str)).toArray.foldl (fun a t=>a+t.length+(Str.ofString "").length) 0)=false:=by
  have h0:∀ (cs:List Nat) (a:Nat),(cs.map fun c=>(⟨#[c]⟩:Str)).foldl (fun a t=>a+t.length+(Str.ofString "").length) a=a+cs.length:=by
   intro cs
   induction cs with
   | nil=>intro a;rfl
   | cons b cs ih=>
    intro a
    rw [List.map_cons,List.foldl_cons,ih]
    have h1:(⟨#[b]⟩:Str).length=1:=rfl
    have h2:(Str.ofString "").length=0:=by decide +kernel
    rw [h1,h2,List.length_cons];omega
  rw [List.foldl_toArray',h0]
  unfold Builtin.Str.tooLong
  exact decide_eq_false (by have:=small1000 (n:=0+cs.length) (by omega);omega)
  simp
 rw [e];rfl
end Rm
namespace Rm
open PySem L2 PyProof.Rows
def Pr(bs:List Bool)(x y:Nat):Prop:=Mate bs x y\/Mate bs y x
open Classical in
noncomputable def mtF (bs:List Bool) (x:Nat):Nat:=if h:∃ y,Pr bs x y then h.choose else x
end Rm
namespace Rm
open PySem L2 PyProof.Rows
def itF(L R:Nat->Nat)(e:Nat):Nat->Nat
 | 0=>e
 | i+1=>R (L (itF L R e i))
def rdL(L R:Nat->Nat)(e:Nat):Nat->List Nat
 | 0=>[]
 | i+1=>rdL L R e i++[itF L R e i]++[L (itF L R e i)]
def Inj(L R:Nat->Nat)(e i:Nat):Prop:=∀ j k,j<i->k<i->itF L R e j=itF L R e k->j=k
end Rm
namespace Rm
open PySem L2 PyProof.Rows
structure Per (L R:Nat->Nat) (e i:Nat):Prop where
 pos:0<i
 inj:Inj L R e i
 back:itF L R e i=e
open Classical in
noncomputable def perF (L R:Nat->Nat) (e:Nat):Nat:=if h:∃ i,Per L R e i then h.choose else 0
noncomputable def rdF (L R:Nat->Nat) (e:Nat):List Nat:=rdL L R e (perF L R e)
open Classical in
noncomputable def rsF (L R:Nat->Nat):Nat->List (List Nat)
 | 0=>[]
 | i+1=>if ∃ r∈rsF L R i,i∈r then rsF L R i else rsF L R i++[rdF L R i]
end Rm
namespace Rm
open PySem L2 PyProof.Rows
def rk(G:Nat->Bool):Nat->Nat
 | 0=>0
 | k+1=>if G k then rk G k else rk G k+1
def dK(G:Nat->Bool)(bs:List Bool):Nat->Int
 | 0=>0
 | k+1=>if G k then dK G bs k else dK G bs k+((bs[k]?).toList.map dl).sum
end Rm
namespace L2
open PySem PySem.Spec PyProof.Rows
theorem qbmK{X:Cx}{K:PySem.W.Frag}{e:Expr}{T:String}{r:V->List V->Hp->VK->Prop}{to:TE}{t:TA}(hK:X.K=K)(h:QE X e (tBM X.K T r to t)):QE X e (tBM K T r to t):=hK▸h
end L2
namespace L2
open PySem PySem.Spec PyProof.Rows
theorem qpe_globS {X:Cx} {x:Str} {z:Str} {pos:Pos} (hg:Gl X x) (hm:∃ t,X.mg x=some (.str z t)) (hd:(x==("__debug__":Str))=false:=by decide):QE X (.Name x pos) (tC (.str z)):=
 let ⟨t,h⟩:=hm
 ⟨pe_glob hg h ⟨t,rfl⟩ hd⟩
end L2
namespace L2
open PySem PySem.Spec PyProof.Rows
def rIndexS:V->List V->Hp->VK->Prop:=fun x vs H Q=>∃ (l:Addr) (ks:List Str) (z:Str) (j:Nat),x=.ref l/\vs=[.str z]/\H l=some (.lst (ks.map V.str))/\ks.length<=1000/\ks[j]? = some z/\(∀ m,m<j->ks[m]?≠some z)/\Q (.int j) H
theorem mt_indexS {X:Cx}:MtM X "list.index" rIndexS:=by
 intro pins s σ H x vs v us Q I rx rv h
 obtain⟨l,ks,z,j,rfl,rfl,hH,hsz,hj,hno,q⟩:=h
 cases rx
 obtain⟨u,rfl,ru⟩:=rv.one
 obtain⟨t,rfl⟩:=ru
 obtain⟨c,its,n,r,hl,e⟩:=I.lstM hH
 have at_:∀ (m:Nat) (k:Str),ks[m]? = some k->∃ t,its[m]? = some (Value.str k t):=fun m k hk=>by
  obtain⟨w,hw,t,ht⟩:=r.get (show (ks.map V.str)[m]? = some (V.str k) by rw [List.getElem?_map,hk];rfl)
  exact⟨t,by rw [hw,ht]⟩
 have ln:its.length=ks.length:=by have:=r.length;rw [List.length_map] at this;exact this.symm
 have jl:j<ks.length:=(List.getElem?_eq_some_iff.mp hj).1
 let f:Value->Bool:=fun y=>match y with | .str v _=>v.cps.toList==z.cps.toList | _=>false
 refine call_meets F.slot_list_index ⟨_,e,rfl⟩ F.entry_list_index (F.args_list_index_2 _ _)
  (MeetsSeq.list_index l its.toArray n (.str z t) f (fun y hy=>?_) j (by rw [List.size_toArray];omega) (by omega) ?_ ?_) ⟨e,⟨.int j,H,I.tok _,⟨_,rfl⟩,q⟩⟩
 ·obtain⟨m,hm,rfl⟩:=List.getElem_of_mem (List.mem_toArray.mp hy)
  obtain⟨t',ht⟩:=at_ m ks[m] (List.getElem?_eq_getElem (by omega))
  rw [List.getElem?_eq_getElem hm] at ht
  rw [Option.some.inj ht]
  exact SeqRoads2.EqGives.str _ _ _ _
 ·obtain⟨t',ht⟩:=at_ j z hj
  have h2:its.toArray[j]'(by rw [List.size_toArray];omega)=Value.str z t':=by
   rw [List.getElem_toArray]
   rw [List.getElem?_eq_getElem (by omega)] at ht
   exact Option.some.inj ht
  rw [h2]
  exact beq_self_eq_true z.cps.toList
 ·intro m hm hmj
  obtain⟨t',ht⟩:=at_ m ks[m] (List.getElem?_eq_getElem (by omega))
  have h2:its.toArray[m]=Value.str (ks[m]'(by omega)) t':=by
   rw [List.getElem_toArray]
   rw [List.getElem?_eq_getElem (by omega)] at ht
   exact Option.some.inj ht
  rw [h2]
  have:=hno m hmj
  rw [List.getElem?_eq_getElem (by omega)] at this
  refine beq_false_of_ne fun e=>this ?_
  have:(ks[m]'(by omega)).cps=z.cps:=by simpa using congrArg List.toArray e
  congr 1
  generalize ks[m]'(by omega)=y at this
  obtain⟨y⟩:=y;obtain⟨z⟩:=z
  simp only at this
  rw [this]
theorem w_forZ{K:PySem.W.Frag}{σ:St}{H:Hp}{D:Ends}{ta:TA}{g:TG}{tb:TS}:tFor (iZip K ta) g tb D σ H=ta σ H fun vs H1=>∃ a b,vs=[.ref a,.ref b]/\(∃ xs,SqL K H1 a xs)/\(∃ ys,SqL K H1 b ys)/\ForJ (ItZ K a b) g tb D σ H1:=rfl
theorem for_zipL{K:PySem.W.Frag}{σ:St}{H:Hp}{D:Ends}{a b:Addr}{xs ys:List V}{g:TG}{tb:TS}(hle:xs.length<=ys.length)(Pv:Nat->St->Hp->Prop)(h0:Pv 0 σ H)(hl:∀ i σ H,Pv i σ H->SqL K H a xs/\SqL K H b ys)
  (hs:∀ i x y σ H p,xs[i]? = some x->ys[i]? = some y->Pv i σ H->H p=none->g (.ref p) σ (upd H p (.tup [x,y])) fun σ2 H2=>tb { D with nx:=Pv (i+1),ct:=Pv (i+1),bk:=D.nx } σ2 H2) (hd:∀ σ H,Pv xs.length σ H->D.nx σ H):ForJ (ItZ K a b) g tb D σ H:=by
 refine⟨fun i m σ H=>m+i=xs.length/\Pv i σ H,⟨xs.length,rfl,h0⟩,?_⟩
 rintro i m σ H ⟨hm,hp⟩
 obtain⟨q1,q2⟩:=hl i σ H hp
 by_cases hi:i<xs.length
 ·refine .inr ⟨⟨xs,ys,xs[i],ys[i],q1,q2,by simp [hi],by simp [Nat.lt_of_lt_of_le hi hle]⟩,Pv (i+1),fun σ' H' h=>⟨m - 1,by omega,by omega,h⟩,?_⟩
  rintro v H' ⟨p,x,y,hn,hx,hy,rfl,rfl⟩
  exact hs i x y σ H p (hx xs q1) (hy ys q2) hp hn
 ·have e:i=xs.length:=by omega
  subst e
  exact .inl ⟨⟨xs,ys,q1,q2,.inl (Nat.le_refl _)⟩,hd σ H hp⟩
theorem w_indexS{l:Addr}{z:Str}{H:Hp}{Q:VK}:rIndexS (.ref l) [.str z] H Q=∃ (ks:List Str) (j:Nat),H l=some (.lst (ks.map V.str))/\ks.length<=1000/\ks[j]? = some z/\(∀ m,m<j->ks[m]?≠some z)/\Q (.int j) H:=
 propext ⟨fun ⟨_,ks,_,j,e,e',h⟩=>by cases e;cases e';exact⟨ks,j,h⟩,fun ⟨ks,j,h⟩=>⟨l,ks,z,j,rfl,rfl,h⟩⟩
end L2
namespace Rm
open PySem L2 PyProof.Rows
def hN(S:List Bw):Nat->Bw->Nat
 | 0,_=>1
 | k+1,p=>1+((S.filter fun q=>inZ q p).map (hN S k)).foldl max 0
def hF(S:List Bw)(p:Bw):Nat:=hN S (spanZ p).toNat p
theorem fmax_le{l:List Nat}{m:Nat}:∀ a,(∀ x∈l,x<=m)->a<=m->l.foldl max a<=m:=by
 induction l with
 | nil=>intro a _ h;exact h
 | cons x l ih=>intro a h ha;exact ih _ (fun y hy=>h y (List.mem_cons_of_mem _ hy)) (by have:=h x (by simp);omega)
theorem fmax_ge{l:List Nat}:∀ a,a<=l.foldl max a/\∀ x∈l,x<=l.foldl max a:=by
 induction l with
 | nil=>intro a;exact⟨Nat.le_refl _,fun x h=>nomatch h⟩
 | cons y l ih=>
  intro a
  obtain⟨h1,h2⟩:=ih (max a y)
  refine⟨by show a<=l.foldl max (max a y);omega,fun x hx=>?_⟩
  rcases List.mem_cons.mp hx with rfl | hx
  ·show x<=l.foldl max (max a x);omega
  ·exact h2 x hx
theorem fmax_in{l:List Nat}:∀ a,l.foldl max a=a\/l.foldl max a∈l:=by
 induction l with
 | nil=>intro a;exact .inl rfl
 | cons y l ih=>
  intro a
  rcases ih (max a y) with h | h
  ·show l.foldl max (max a y)=a\/l.foldl max (max a y)∈y::l
   rw [h]
   rcases Nat.le_total a y with z | z
   ·rw [Nat.max_eq_right z];exact .inr (by simp)
   ·rw [Nat.max_eq_left z];exact .inl rfl
  ·exact .inr (List.mem_cons_of_mem _ h)
theorem hN_stable{S:List Bw}(hS:∀ q∈S,q.1<q.2):∀ (k:Nat) (p:Bw),(spanZ p).toNat<=k->hN S k p=hF S p:=by
 intro k
 induction k using Nat.strongRecOn with
 | ind k ih=>
  intro p hp
  unfold hF
  by_cases e:(spanZ p).toNat=k
  ·rw [e]
  ·match k,ih,hp,e with
   | 0,_,hp,e=>omega
   | k+1,ih,hp,e=>
    cases hs:(spanZ p).toNat with
    | zero=>
     have:(S.filter fun q=>inZ q p).map (hN S k)=(S.filter fun q=>inZ q p).map fun _=>1:=by
      refine List.map_congr_left fun q hq=>?_
      have hi:=(List.mem_filter.mp hq).2
      have:=inZ_span hi
      rw [ih k (by omega) q (by omega)]
      unfold hF
      rw [show (spanZ q).toNat=0 by omega];rfl
     show 1+((S.filter fun q=>inZ q p).map (hN S k)).foldl max 0=1
     rw [this]
     cases hf:S.filter fun q=>inZ q p with
     | nil=>rfl
     | cons q r=>
      exfalso
      have hm:=List.mem_filter.mp (by rw [hf];simp:q∈S.filter fun q=>inZ q p)
      have h1:=inZ_span hm.2
      have h2:=hS q hm.1
      unfold spanZ at h1 hs
      omega
    | succ j=>
     show 1+((S.filter fun q=>inZ q p).map (hN S k)).foldl max 0=1+((S.filter fun q=>inZ q p).map (hN S j)).foldl max 0
     congr 2
     refine List.map_congr_left fun q hq=>?_
     have:=inZ_span (List.mem_filter.mp hq).2
     rw [ih k (by omega) q (by omega),ih j (by omega) q (by omega)]
theorem hF_eq{S:List Bw}(hS:∀ q∈S,q.1<q.2){p:Bw}(hp:p.1<p.2):hF S p=1+((S.filter fun q=>inZ q p).map (hF S)).foldl max 0:=by
 unfold hF
 obtain⟨k,hk⟩:∃ k,(spanZ p).toNat=k+1:=⟨(spanZ p).toNat - 1,by unfold spanZ;omega⟩
 rw [hk]
 show 1+((S.filter fun q=>inZ q p).map (hN S k)).foldl max 0=_
 congr 2
 refine List.map_congr_left fun q hq=>?_
 have:=inZ_span (List.mem_filter.mp hq).2
 exact hN_stable hS k q (by omega)
theorem hF_pos{S:List Bw}(hS:∀ q∈S,q.1<q.2){p:Bw}(hp:p∈S):1<=hF S p:=by rw [hF_eq hS (hS p hp)];omega
theorem hF_uniq{S:List Bw}(hS:∀ q∈S,q.1<q.2){h:Bw->Int}(hh:∀ p∈S,∃ m:Int,h p=1+m/\0<=m/\(∀ q∈S,inZ q p=true->h q<=m)/\(m=0\/∃ q∈S,inZ q p=true/\h q=m)):∀ (k:Nat) (p:Bw),p∈S->(spanZ p).toNat=k->h p=(hF S p:Nat):=by
 intro k
 induction k using Nat.strongRecOn with
 | ind k ih=>
  intro p hp hk
  obtain⟨m,e,m0,m1,m2⟩:=hh p hp
  have ihq:∀ q∈S,inZ q p=true->h q=(hF S q:Nat):=fun q hq hi=>by
   have:=inZ_span hi
   have:=hS q hq
   exact ih (spanZ q).toNat (by unfold spanZ at *;omega) q hq rfl
  rw [e,hF_eq hS (hS p hp)]
  have g:=fmax_ge (l:=(S.filter fun q=>inZ q p).map (hF S)) 0
  generalize hM:((S.filter fun q=>inZ q p).map (hF S)).foldl max 0=M at g
  have le:M<=m.toNat:=by
   rw [<-hM]
   refine fmax_le 0 (fun x hx=>?_) (Nat.zero_le _)
   obtain⟨q,hq,rfl⟩:=List.mem_map.mp hx
   obtain⟨q1,q2⟩:=List.mem_filter.mp hq
   have:=m1 q q1 q2
   rw [ihq q q1 q2] at this
   omega
  have ge:m.toNat<=M:=by
   rcases m2 with z | ⟨q,q1,q2,z⟩
   ·omega
   ·have:=g.2 (hF S q) (List.mem_map.mpr ⟨q,List.mem_filter.mpr ⟨q1,q2⟩,rfl⟩)
    rw [ihq q q1 q2] at z
    omega
  omega
theorem hts_hF{S:List Bw}{hs:List Int}(hS:∀ q∈S,q.1<q.2)(nd:S.Nodup)(h:Hts S hs):hs=S.map fun p=>((hF S p:Nat):Int):=by
 let f:Bw->Int:=fun p=>htOf (S.zip hs) p
 have nz:((S.zip hs).map (·.1)).Nodup:=by
  rw [List.map_fst_zip (by rw [h.len];exact Nat.le_refl _)];exact nd
 have at_:∀ (i:Nat) p x,S[i]? = some p->hs[i]? = some x->f p=x:=fun i p x h1 h2=>
  htOf_mem (e:=(p,x)) nz (List.mem_of_getElem? (by rw [List.getElem?_zip_eq_some];exact⟨h1,h2⟩))
 have key:=hF_uniq hS (h:=f) fun p hp=>by
  obtain⟨i,hi⟩:=List.getElem?_of_mem hp
  have il:=(List.getElem?_eq_some_iff.mp hi).1
  have hx:hs[i]? = some (hs[i]'(by rw [h.len];exact il)):=List.getElem?_eq_getElem _
  have T:=h.top i p _ hi hx
  have ep:=at_ i p _ hi hx
  refine⟨_,by rw [ep];omega,T.nn,fun q hq hi2=>?_,?_⟩
  ·obtain⟨j,hj⟩:=List.getElem?_of_mem hq
   have jl:=(List.getElem?_eq_some_iff.mp hj).1
   have hy:hs[j]? = some (hs[j]'(by rw [h.len];exact jl)):=List.getElem?_eq_getElem _
   rw [at_ j q _ hj hy]
   exact T.le (q,_) (List.mem_of_getElem? (i:=j) (by rw [List.getElem?_zip_eq_some];exact⟨hj,hy⟩)) hi2
  ·rcases T.is with z | ⟨e,he,z1,z2⟩
   ·exact .inl z
   ·obtain⟨j,hj⟩:=List.getElem?_of_mem he
    rw [List.getElem?_zip_eq_some] at hj
    exact .inr ⟨e.1,List.mem_of_getElem? hj.1,z1,by rw [at_ j e.1 e.2 hj.1 hj.2];exact z2⟩
 apply List.ext_getElem
 ·rw [List.length_map,h.len]
 ·intro i h1 h2
  rw [List.getElem_map]
  have il:i<S.length:=by rw [<-h.len];exact h1
  rw [<-key _ S[i] (List.getElem_mem _) rfl]
  exact (at_ i _ _ (List.getElem?_eq_getElem il) (List.getElem?_eq_getElem h1)).symm
def mxH(S:List Bw):Nat:=(S.map (hF S)).foldl max 0
theorem mxH_ge{S:List Bw}{p:Bw}(hp:p∈S):hF S p<=mxH S:=(fmax_ge 0).2 _ (List.mem_map.mpr ⟨p,hp,rfl⟩)
theorem maxD_mxH (S : List Bw) : maxD (S.map fun p => ((hF S p : Nat) : Int)) 0 = (mxH S : Nat) := by
  have gen : ∀ (l : List Nat) (o : Option Int) (a : Nat), o.getD 0 = (a : Int) → (∀ y, o = some y → 0 ≤ y) → ((l.map fun n => ((n : Nat) : Int)).foldl mxS o).getD 0 = ((l.foldl max a : Nat) : Int) := by
    intro l
    induction l with
    | nil => intro o a h _; exact h
    | cons x l ih =>
      intro o a h h2
      refine ih _ _ ?_ ?_
      · cases o with
        | none => have : a = 0 := by simpa using h.symm
                  subst this; simp [mxS]
        | some y =>
          have : y = a := by simpa using h
          subst this
          show (if (a : Int) < x then (x : Int) else a) = ((max a x : Nat) : Int)
          split <;> omega
      · intro y hy
        cases o with
        | none =>
          have hy' : (x : Int) = y := Option.some.inj hy
          omega
        | some z =>
          have := h2 z rfl
          have hy' : (if z < (x : Int) then (x : Int) else z) = y := Option.some.inj hy
          split at hy' <;> omega
  have e : (S.map fun p => ((hF S p : Nat) : Int)) = (S.map (hF S)).map fun n => ((n : Nat) : Int) := by rw [List.map_map]; rfl
  rw [e]
  exact gen _ none 0 rfl fun y hy => nomatch hy
end Rm
namespace Rm
open PySem L2 PyProof.Rows
abbrev Grd:=Nat->Nat->Nat
def rwV(w:Nat)(r:Nat->Nat):List V:=(List.range w).map fun x=>sg1 (r x)
theorem rwV_len(w:Nat)(r:Nat->Nat):(rwV w r).length=w:=by simp [rwV]
theorem rwV_set{w x c:Nat}{r:Nat->Nat}:(rwV w r).set x (sg1 c)=rwV w fun y=>if y=x then c else r y:=by
 apply List.ext_getElem
 ·simp [rwV]
 ·intro i h1 h2
  rw [List.getElem_set]
  simp only [rwV,List.getElem_map,List.getElem_range]
  by_cases e:x=i
  ·subst e;simp
  ·have:¬ i=x:=fun z=>e z.symm
   simp [e,this]
theorem rwV_congr{w:Nat}{r s:Nat->Nat}(h:∀ x,x<w->r x=s x):rwV w r=rwV w s:=by
 unfold rwV
 exact List.map_congr_left fun x hx=>by rw [h x (List.mem_range.mp hx)]
structure GridAt (H:Hp) (g:Addr) (as:List Addr) (w:Nat) (G:Grd):Prop where
 top:H g=some (.lst (as.map V.ref))
 nd:as.Nodup
 gn:g∉as
 row:∀ (i:Nat) a,as[i]? = some a->H a=some (.lst (rwV w (G i)))
def Keeps(as:List Addr)(H H':Hp):Prop:=∀ b o,b∉as->H b=some o->H' b=some o
theorem Keeps.refl(as:List Addr)(H:Hp):Keeps as H H:=fun _ _ _ h=>h
theorem Keeps.trans{as:List Addr}{H H1 H2:Hp}(a:Keeps as H H1)(b:Keeps as H1 H2):Keeps as H H2:=fun x o hx h=>b x o hx (a x o hx h)
theorem Same.keeps{as:List Addr}{H H':Hp}(s:Same H H'):Keeps as H H':=fun _ _ _ h=>s _ _ h
theorem Keeps.upd{as:List Addr}{H:Hp}{a:Addr}{o:HO}(h:a∈as):Keeps as H (upd H a o):=fun b u nb hb=>by
 have:b≠a:=fun e=>nb (e▸h)
 rw [upd_ne this];exact hb
theorem GridAt.off{H:Hp}{g:Addr}{as:List Addr}{w:Nat}{G:Grd}(h:GridAt H g as w G){b:Addr}{o:HO}(hb:H b=some o)(ho:∀ xs,o≠.lst xs):b∉as:=fun hm=>by
 obtain⟨i,hi⟩:=List.getElem?_of_mem hm
 rw [h.row i b hi] at hb
 exact ho _ (Option.some.inj hb).symm
theorem GridAt.congr{H:Hp}{g:Addr}{as:List Addr}{w:Nat}{G G':Grd}(h:GridAt H g as w G)(e:∀ i x,i<as.length->x<w->G i x=G' i x):GridAt H g as w G':=
 ⟨h.top,h.nd,h.gn,fun i a hi=>by rw [h.row i a hi,rwV_congr fun x hx=>e i x (List.getElem?_eq_some_iff.mp hi).1 hx]⟩
theorem GridAt.set{H:Hp}{g:Addr}{as:List Addr}{w:Nat}{G:Grd}(h:GridAt H g as w G){i x c:Nat}{a:Addr}(hi:as[i]? = some a):GridAt (upd H a (.lst ((rwV w (G i)).set x (sg1 c)))) g as w (fun i' x'=>if i'=i/\x'=x then c else G i' x'):=by
 have ma:a∈as:=List.mem_of_getElem? hi
 refine⟨?_,h.nd,h.gn,fun j b hj=>?_⟩
 ·rw [upd_ne fun e:g=a=>h.gn (e▸ma)];exact h.top
 ·by_cases e:b=a
  ·subst e
   have ij:i=j:=by
    have h1:=List.getElem?_eq_some_iff.mp hi
    have h2:=List.getElem?_eq_some_iff.mp hj
    exact (List.getElem_inj h.nd (h₀:=h1.1) (h₁:=h2.1)).mp (h1.2.trans h2.2.symm)
   subst ij
   rw [upd_same,rwV_set,rwV_congr fun y _=>?_]
   simp
  ·rw [upd_ne e,h.row j b hj]
   have ij:¬ j=i:=fun z=>by
    subst z
    rw [hi] at hj
    exact e (Option.some.inj hj).symm
   rw [rwV_congr fun y _=>?_]
   simp [ij]
def opn(G:Grd)(P:Nat->Nat->Bool):Grd:=fun i x=>if P i x then 46 else G i x
theorem opn_eq{G:Grd}{P P':Nat->Nat->Bool}{i x:Nat}(h:P i x=P' i x):opn G P i x=opn G P' i x:=by unfold opn;rw [h]
theorem opn_set{G:Grd}{P P':Nat->Nat->Bool}{i x i0 x0:Nat}(h:P' i x=(P i x || decide (i=i0/\x=x0))):(if i=i0/\x=x0 then 46 else opn G P i x)=opn G P' i x:=by
 unfold opn
 rw [h]
 by_cases z:i=i0/\x=x0
 ·rw [if_pos z,decide_eq_true z,Bool.or_true,if_pos rfl]
 ·rw [if_neg z,decide_eq_false z,Bool.or_false]
def inL(p:Bw)(i:Nat):Bool:=decide (2 * p.1+1<=(i:Int))&&decide ((i:Int)<=2 * p.2+1)
def opB(S:List Bw)(c:Bw->Nat)(i x:Nat):Bool:=S.any fun p=>inL p i&&decide (x=c p)
def opG(n:Nat)(kL kR:Nat->Nat)(i x:Nat):Bool:=decide (i % 2=1/\3<=i/\i<=2 * n+1)&&(decide (kL ((i - 1) / 2)<=x)&&decide (x<=kR ((i - 1) / 2)))
def ColAt(kvs:List (Key×V))(S:List Bw)(c:Bw->Nat):Prop:=∀ p∈S,valV kvs (.inl p.1:Key)=some (.int (c p:Nat))/\valV kvs (.inl p.2:Key)=some (.int (c p:Nat))
structure Bws (S:List Bw):Prop where
 nd:S.Nodup
 lt:∀ p∈S,p.1<p.2
 len:S.length<=40
 one:∀ p∈S,∀ q∈S,∀ x,(p.1=x\/p.2=x)->(q.1=x\/q.2=x)->p=q
def spLineOf:Sp:=fun vs H Q _=>∃ r:Int,vs=[.int r]/\Q (.int (2 * r+1)) H
def spGreat:Sp:=fun vs H Q _=>∃ l S,vs=[.ref l]/\BowsAt H l S/\Bws S/\∀ H',Same H H'->Q (.int (mxH S:Nat)) H'
def spByRow:Sp:=fun vs H Q _=>∃ l k S,∃ c:Bw->Nat,vs=[.ref l,.ref k]/\BowsAt H l S/\Bws S/\H k=some (.lst (S.map fun p=>V.int (c p:Nat)))/\∀ d kvs H',H d=none->Same H H'->H' d=some (.dK kvs)->ColAt kvs S c->Q (.ref d) H'
def spLeftC:Sp:=fun vs H Q _=>∃ l S,∃ m:Nat,vs=[.ref l,.int (m:Nat)]/\BowsAt H l S/\Bws S/\mxH S<=m/\∀ d kvs H',H d=none->Same H H'->H' d=some (.dK kvs)->ColAt kvs S (fun p=>2 * (m - hF S p)+1)->Q (.ref d) H'
def spRightC:Sp:=fun vs H Q _=>∃ l S,∃ m:Nat,vs=[.ref l,.int (m:Nat)]/\BowsAt H l S/\Bws S/\∀ d kvs H',H d=none->Same H H'->H' d=some (.dK kvs)->ColAt kvs S (fun p=>2 * m+2 * hF S p - 1)->Q (.ref d) H'
def spCarveB:Sp:=fun vs H Q _=>∃ g l d as w G S c kvs,vs=[.ref g,.ref l,.ref d]/\GridAt H g as w G/\l∉as/\BowsAt H l S/\H d=some (.dK kvs)/\ColAt kvs S c/\(∀ p∈S,0<=p.1/\p.1<p.2/\2 * p.2+1<as.length/\c p<w)/\as.length<=100/\w<=1000/\∀ H',Keeps as H H'->GridAt H' g as w (opn G (opB S c))->Q .non H'
def spCarveR:Sp:=fun vs H Q _=>∃ g dl dr as w G kl kr,∃ n:Nat,∃ kL kR:Nat->Nat,vs=[.ref g,.int (n:Nat),.ref dl,.ref dr]/\GridAt H g as w G/\H dl=some (.dK kl)/\H dr=some (.dK kr)/\(∀ r:Nat,1<=r->r<=n->valV kl (.inl (r:Int):Key)=some (.int (kL r:Nat))/\valV kr (.inl (r:Int):Key)=some (.int (kR r:Nat))/\kL r<w/\kR r<w)/\2 * n+1<as.length/\as.length<=100/\w<=1000/\∀ H',Keeps as H H'->GridAt H' g as w (opn G (opG n kL kR))->Q .non H'
def spMark:Sp:=fun vs H Q _=>∃ a w,∃ r:Nat->Nat,∃ x0 c:Nat,vs=[.ref a,.str ⟨#[c]⟩]/\H a=some (.lst (rwV w r))/\x0<w/\r x0=46/\(∀ x,x<x0->r x≠46)/\w<=1000/\Q .non (upd H a (.lst ((rwV w r).set x0 (sg1 c))))
theorem hts_ok{S:List Bw}{hs:List Int}(B:Bws S)(h:Hts S hs):hs=S.map fun p=>((hF S p:Nat):Int):=hts_hF B.lt B.nd h
end Rm
namespace Rm
open PySem L2 PyProof.Rows
def cLf(L:List Bw)(p:Bw):Nat:=2 * (mxH L - hF L p)+1
def cRf(L R:List Bw)(p:Bw):Nat:=2 * mxH L+2 * hF R p - 1
def bowR(S:List Bw)(r:Nat):Bw:=(S.find? fun p=>decide (p.1=(r:Int)) || decide (p.2=(r:Int))).getD (0,0)
def kLf(L:List Bw)(r:Nat):Nat:=cLf L (bowR L r)
def kRf(L R:List Bw)(r:Nat):Nat:=cRf L R (bowR R r)
def widG(L R:List Bw):Nat:=2 * (mxH L+mxH R)+1
def openG(n:Nat)(L R:List Bw)(i x:Nat):Bool:=opB L (cLf L) i x || (opB R (cRf L R) i x || opG n (kLf L) (kRf L R) i x)
def signG(n:Nat)(L R:List Bw)(i x:Nat):Nat:=if openG n L R i x then (if i=1 then 118 else if i=2 * n+3 then 64 else 46) else 35
def rowG(n:Nat)(L R:List Bw)(i:Nat):List Nat:=(List.range (widG L R)).map (signG n L R i)
def joinN:List (List Nat)->List Nat
 | []=>[]
 | [r]=>r
 | r::s::rs=>r++10::joinN (s::rs)
def txtG(n:Nat)(L R:List Bw):List Nat:=joinN ((List.range (2 * n+5)).map (rowG n L R))
theorem join_fold10:∀ (rs:List (List Nat)) (acc:Array Nat),(rs.map tx).foldl (fun acc p=>acc++(Str.ofString "\n").cps++p.cps) acc=acc++(rs.flatMap fun r=>10::r).toArray
 | [],acc=>by simp
 | r::rs,acc=>by
  have e:(Str.ofString "\n").cps=#[10]:=by decide +kernel
  rw [List.map_cons,List.foldl_cons,join_fold10 rs,e]
  simp [tx]
theorem joinN_flat:∀ (r:List Nat) (rs:List (List Nat)),joinN (r::rs)=r++rs.flatMap fun r=>10::r
 | r,[]=>by simp [joinN]
 | r,s::rs=>by
  show r++10::joinN (s::rs)=_
  rw [joinN_flat s rs]
  simp
theorem join_tx (rs:List (List Nat)):Txt.join (Str.ofString "\n") (rs.map tx)=tx (joinN rs):=by
 cases rs with
 | nil=>rfl
 | cons r rs=>
  show Str.mk ((((r::rs).map tx).drop 1).foldl (fun acc p=>acc++(Str.ofString "\n").cps++p.cps) (((r::rs).map tx).headD Str.empty).cps)=_
  rw [List.map_cons,List.drop_one,List.tail_cons,List.headD_cons,join_fold10,joinN_flat]
  simp [tx]
theorem join_txOk {rs:List (List Nat)} (h1:rs.length<=1000) (h2:∀ r∈rs,r.length<=1000):JoinOk (Str.ofString "\n") (rs.map tx)=true:=by
 unfold JoinOk
 have e:Builtin.Str.tooLong ((rs.map tx).toArray.foldl (fun a t=>a+t.length+(Str.ofString "\n").length) 0)=false:=by
  have h0:∀ (rs:List (List Nat)) (a:Nat),(∀ r∈rs,r.length<=1000)->(rs.map tx).foldl (fun a t=>a+t.length+(Str.ofString "\n").length) a<=a+rs.length * 1001:=by
   intro rs
   induction rs with
   | nil=>intro a _;exact Nat.le_add_right _ _
   | cons b bs ih=>
    intro a hb
    rw [List.map_cons,List.foldl_cons]
    have h3:(Str.ofString "\n").length=1:=by decide +kernel
    have h4:=hb b (by simp)
    have:=ih (a+(tx b).length+(Str.ofString "\n").length) fun r hr=>hb r (by simp [hr])
    rw [tx_len,h3] at this
    rw [tx_len,h3,List.length_cons]
    refine Nat.le_trans this ?_
    have:(bs.length+1) * 1001=bs.length * 1001+1001:=Nat.succ_mul _ _
    omega
  rw [List.foldl_toArray' (h:=by simp)]
  have:=h0 rs 0 h2
  unfold Builtin.Str.tooLong
  refine decide_eq_false ?_
  rw [sizeLine_eq]
  have:rs.length * 1001<=1000 * 1001:=Nat.mul_le_mul_right _ h1
  omega
 rw [e];rfl
theorem rwV_strs(w:Nat)(r:Nat->Nat):rwV w r=(((List.range w).map r).map fun c=>(⟨#[c]⟩:Str)).map V.str:=by unfold rwV;rw [List.map_map,List.map_map];rfl
theorem SideOf.bws{b:Bool}{ns:List Int}{u:Bool}{L:List Bw}(h:SideOf b ns u L)(O:Ord ns):Bws L where
 nd:=by
  have:(sideBows b ns u (ns.length+1)).Nodup:=by
   unfold sideBows List.Nodup
   rw [List.pairwise_map]
   refine List.Pairwise.imp_of_mem (fun {i j} hi hj ne e=>?_) ((List.nodup_range).filter _)
   have hi:=List.mem_filter.mp hi
   have hj:=List.mem_filter.mp hj
   have h1:=O.has_iff (i:=i) (j:=i) (by have:=List.mem_range.mp hi.1;omega) (by have:=List.mem_range.mp hi.1;omega)
   have h2:=O.has_iff (i:=i) (j:=j) (by have:=List.mem_range.mp hi.1;omega) (by have:=List.mem_range.mp hj.1;omega)
   rw [<-e,h1] at h2
   have h3:decide (j=i\/j+1=i)=true:=by rw [<-h2];simp
   have h4:=of_decide_eq_true h3
   rcases h4 with z | z
   ·exact ne z.symm
   ·exact odd_ne hi.2 hj.2 z.symm
  exact h.perm.nodup_iff.mpr this
 lt:=h.lt O
 len:=by have:=h.len O;omega
 one:=fun p hp q hq x h1 h2=>by
  have hp:=h.perm.mem_iff.mp hp
  have hq:=h.perm.mem_iff.mp hq
  obtain⟨i,hi,si,rfl⟩:=side_mem hp
  obtain⟨j,hj,sj,rfl⟩:=side_mem hq
  have hx:∃ k,k<ns.length+2/\x=rowZ ns k/\(i=k\/i+1=k):=by
   have e:x=rowZ ns i\/x=rowZ ns (i+1):=by
    have h1':min (rowZ ns i) (rowZ ns (i+1))=x\/max (rowZ ns i) (rowZ ns (i+1))=x:=h1
    omega
   rcases e with e | e
   ·exact⟨i,by omega,e,.inl rfl⟩
   ·exact⟨i+1,by omega,e,.inr rfl⟩
  obtain⟨k,hk,rfl,ik⟩:=hx
  have h2':=has_of.mpr h2
  rw [O.has_iff hk (by omega)] at h2'
  have jk:=of_decide_eq_true h2'
  have:i=j\/i=j+1\/j=i+1:=by omega
  rcases this with z | z | z
  ·rw [z]
  ·exact absurd z fun z=>odd_ne si sj z
  ·exact absurd z fun z=>odd_ne sj si z
theorem SideOf.has{b:Bool}{ns:List Int}{u:Bool}{L:List Bw}(h:SideOf b ns u L)(O:Ord ns){r:Nat}(h1:1<=r)(h2:r<=ns.length):∃ p∈L,p.1=(r:Int)\/p.2=(r:Int):=by
 obtain⟨i,hi⟩:=List.getElem?_of_mem (O.mem.mpr ⟨(by omega:(1:Int)<=r),by omega⟩)
 have il:=(List.getElem?_eq_some_iff.mp hi).1
 have er:=rowZ_ring hi
 have:onSide b u i=true\/onSide b u (i+1)=true:=by
  unfold onSide
  rw [odd_succ]
  cases b<;>cases u<;>cases odd i<;>simp
 rcases this with s | s
 ·refine⟨_,h.perm.mem_iff.mpr (side_has (by omega) s),?_⟩
  rw [<-has_of,<-er,O.has_iff (by omega) (by omega)];simp
 ·refine⟨_,h.perm.mem_iff.mpr (side_has (by omega) s),?_⟩
  rw [<-has_of,<-er,O.has_iff (by omega) (by omega)];simp
theorem bowR_of{S:List Bw}(B:Bws S){p:Bw}(hp:p∈S){r:Nat}(h:p.1=(r:Int)\/p.2=(r:Int)):bowR S r=p:=by
 unfold bowR
 cases e:S.find? fun p=>decide (p.1=(r:Int)) || decide (p.2=(r:Int)) with
 | none=>
  have:=List.find?_eq_none.mp e p hp
  rw [Bool.or_eq_true,decide_eq_true_eq,decide_eq_true_eq] at this
  exact absurd h this
 | some q=>
  have h1:=List.find?_some e
  have h2:=List.mem_of_find?_eq_some e
  rw [Bool.or_eq_true,decide_eq_true_eq,decide_eq_true_eq] at h1
  exact B.one q h2 p hp _ h1 h
theorem mxH_le{S:List Bw}{m:Nat}(h:∀ p∈S,hF S p<=m):mxH S<=m:=fmax_le 0 (fun x hx=>by obtain⟨p,hp,rfl⟩:=List.mem_map.mp hx;exact h p hp) (Nat.zero_le _)
theorem hF_span{S:List Bw}(hS:∀ q∈S,q.1<q.2):∀ (k:Nat) (p:Bw),(spanZ p).toNat=k->p.1<p.2->hF S p<=k:=by
 intro k
 induction k using Nat.strongRecOn with
 | ind k ih=>
  intro p hk hp
  rw [hF_eq hS hp]
  have:((S.filter fun q=>inZ q p).map (hF S)).foldl max 0<=k - 1:=by
   refine fmax_le 0 (fun x hx=>?_) (Nat.zero_le _)
   obtain⟨q,hq,rfl⟩:=List.mem_map.mp hx
   obtain⟨q1,q2⟩:=List.mem_filter.mp hq
   have h1:=inZ_span q2
   have h2:=hS q q1
   have:=ih (spanZ q).toNat (by unfold spanZ at *;omega) q rfl h2
   unfold spanZ at *
   omega
  unfold spanZ at hk
  omega
theorem SideOf.mx{b:Bool}{ns:List Int}{u:Bool}{L:List Bw}(h:SideOf b ns u L)(O:Ord ns):mxH L<=21:=mxH_le fun p hp=>by
 have:=side_bd O (h.perm.mem_iff.mp hp)
 exact Nat.le_trans (hF_span (h.lt O) _ p rfl this.2.1) (by unfold spanZ;omega)
theorem first_bow{b:Bool}{ns:List Int}(O:Ord ns){u:Bool}{p:Bw}(hp:p∈sideBows b ns u (ns.length+1))(h:p.1=0):u=b/\p=stepB ns 0:=by
 obtain⟨j,hj,sj,rfl⟩:=side_mem hp
 have h':=has_of.mpr (Or.inl (b:=(stepB ns j).2=rowZ ns 0) (show (stepB ns j).1=rowZ ns 0 by rw [rowZ_0];exact h))
 rw [O.has_iff (by omega) (by omega)] at h'
 have:j=0:=by have:=of_decide_eq_true h';omega
 subst this
 unfold onSide at sj
 exact⟨by have:=beq_iff_eq.mp sj;rw [<-this];simp [odd],rfl⟩
theorem last_bow{b:Bool}{ns:List Int}(O:Ord ns){u:Bool}{p:Bw}(hp:p∈sideBows b ns u (ns.length+1))(h:p.2=(ns.length:Int)+1):u=(b ^^ odd ns.length)/\p=stepB ns ns.length:=by
 obtain⟨j,hj,sj,rfl⟩:=side_mem hp
 have h':=has_of.mpr (Or.inr (a:=(stepB ns j).1=rowZ ns (ns.length+1)) (show (stepB ns j).2=rowZ ns (ns.length+1) by rw [rowZ_last];exact h))
 rw [O.has_iff (by omega) (by omega)] at h'
 have:j=ns.length:=by have:=of_decide_eq_true h';omega
 subst this
 unfold onSide at sj
 exact⟨(beq_iff_eq.mp sj).symm,rfl⟩
end Rm
namespace Rm
open PySem L2 PyProof.Rows
theorem any_one{S:List Bw}{P:Bw->Bool}{p0:Bw}(h0:p0∈S)(h:∀ p∈S,P p=true->p=p0):S.any P=P p0:=by
 rw [Bool.eq_iff_iff,List.any_eq_true]
 exact⟨fun ⟨p,hp,e⟩=>by rw [h p hp e] at e;exact e,fun e=>⟨p0,h0,e⟩⟩
theorem any_no{S:List Bw}{P:Bw->Bool}(h:∀ p∈S,P p=false):S.any P=false:=List.any_eq_false.mpr fun p hp=>by rw [h p hp];decide
theorem cLf_lt{L R:List Bw}{p:Bw}(hS:∀ q∈L,q.1<q.2)(hp:p∈L):cLf L p<widG L R:=by
 have:=hF_pos hS hp
 have:=mxH_ge hp
 unfold cLf widG;omega
theorem cRf_lt{L R:List Bw}{p:Bw}(hS:∀ q∈R,q.1<q.2)(hp:p∈R):cRf L R p<widG L R:=by
 have:=hF_pos hS hp
 have:=mxH_ge hp
 unfold cRf widG;omega
theorem one_open{b:Bool}{ns:List Int}{L R:List Bw}(O:Ord ns)(hL:SideOf b ns false L)(hR:SideOf b ns true R){i:Nat}{u:Bool}{p0:Bw}(h0:p0∈sideBows b ns u (ns.length+1))(hi0:inL p0 i=true)(hu:∀ v,∀ p∈sideBows b ns v (ns.length+1),inL p i=true->v=u/\p=p0)(hg:∀ x,opG ns.length (kLf L) (kRf L R) i x=false):∃ x0,x0<widG L R/\∀ x,openG ns.length L R i x=decide (x=x0):=by
 have mL:∀ p,p∈L<->p∈sideBows b ns false (ns.length+1):=fun p=>hL.perm.mem_iff
 have mR:∀ p,p∈R<->p∈sideBows b ns true (ns.length+1):=fun p=>hR.perm.mem_iff
 cases u with
 | false=>
  refine⟨cLf L p0,cLf_lt (hL.lt O) ((mL _).mpr h0),fun x=>?_⟩
  unfold openG
  rw [hg,Bool.or_false]
  have e1:opB R (cRf L R) i x=false:=any_no fun p hp=>by
   cases e:inL p i with
   | false=>rfl
   | true=>exact nomatch (hu true p ((mR p).mp hp) e).1
  have e2:opB L (cLf L) i x=(inL p0 i&&decide (x=cLf L p0)):=any_one (P:=fun p=>inL p i&&decide (x=cLf L p)) ((mL _).mpr h0) fun p hp e=>by
   rw [Bool.and_eq_true] at e
   exact (hu false p ((mL p).mp hp) e.1).2
  rw [e1,e2,hi0,Bool.true_and,Bool.or_false]
 | true=>
  refine⟨cRf L R p0,cRf_lt (hR.lt O) ((mR _).mpr h0),fun x=>?_⟩
  unfold openG
  rw [hg,Bool.or_false]
  have e1:opB L (cLf L) i x=false:=any_no fun p hp=>by
   cases e:inL p i with
   | false=>rfl
   | true=>exact nomatch (hu false p ((mL p).mp hp) e).1
  have e2:opB R (cRf L R) i x=(inL p0 i&&decide (x=cRf L R p0)):=any_one (P:=fun p=>inL p i&&decide (x=cRf L R p)) ((mR _).mpr h0) fun p hp e=>by
   rw [Bool.and_eq_true] at e
   exact (hu true p ((mR p).mp hp) e.1).2
  rw [e1,e2,hi0,Bool.true_and,Bool.false_or]
theorem inL_iff{p:Bw}{i:Nat}:inL p i=true<->2 * p.1+1<=(i:Int)/\(i:Int)<=2 * p.2+1:=by
 unfold inL;rw [Bool.and_eq_true,decide_eq_true_eq,decide_eq_true_eq]
theorem open_first{b:Bool}{ns:List Int}{L R:List Bw}(O:Ord ns)(hL:SideOf b ns false L)(hR:SideOf b ns true R):∃ x0,x0<widG L R/\∀ x,openG ns.length L R 1 x=decide (x=x0):=by
 have s0:onSide b b 0=true:=by unfold onSide;simp [odd]
 have h0:=side_has (b:=b) (ns:=ns) (s:=b) (m:=ns.length+1) (i:=0) (by omega) s0
 refine one_open O hL hR h0 (inL_iff.mpr ?_) (fun v p hp e=>?_) (fun x=>?_)
 ·have:=side_bd O h0
  have e0:(stepB ns 0).1=0:=by
   have h1:=O.row_in (i:=1) (by omega)
   show min (rowZ ns 0) (rowZ ns 1)=0
   rw [rowZ_0];omega
  omega
 ·have h1:=inL_iff.mp e
  have h2:=side_bd O hp
  exact first_bow O hp (by omega)
 ·unfold opG
  rw [decide_eq_false (by omega),Bool.false_and]
theorem open_last{b:Bool}{ns:List Int}{L R:List Bw}(O:Ord ns)(hL:SideOf b ns false L)(hR:SideOf b ns true R):∃ x0,x0<widG L R/\∀ x,openG ns.length L R (2 * ns.length+3) x=decide (x=x0):=by
 have s0:onSide b (b ^^ odd ns.length) ns.length=true:=by unfold onSide;simp
 have h0:=side_has (b:=b) (ns:=ns) (s:=b ^^ odd ns.length) (m:=ns.length+1) (i:=ns.length) (by omega) s0
 have top:∀ v,∀ p∈sideBows b ns v (ns.length+1),p.2<=(ns.length:Int)+1:=fun v p hp=>by
  obtain⟨j,hj,_,rfl⟩:=side_mem hp
  exact (O.step_in (i:=j) (by omega)).2
 refine one_open O hL hR h0 (inL_iff.mpr ?_) (fun v p hp e=>?_) (fun x=>?_)
 ·have e0:(stepB ns ns.length).2=(ns.length:Int)+1:=by
   have h1:=O.row_in (i:=ns.length) (by omega)
   show max (rowZ ns ns.length) (rowZ ns (ns.length+1))=_
   rw [rowZ_last];omega
  have:=(O.step_lt (i:=ns.length) (Nat.le_refl _))
  omega
 ·have h1:=inL_iff.mp e
  have h2:=top v p hp
  exact last_bow O hp (by omega)
 ·unfold opG
  rw [decide_eq_false (by omega),Bool.false_and]
end Rm
namespace Rm
open PySem L2 PyProof.Rows
theorem rep_rw(w c:Nat):(List.replicate w [sg1 c]).flatten=rwV w fun _=>c:=by
 unfold rwV
 induction w with
 | zero=>rfl
 | succ w ih=>
  rw [List.replicate_succ',List.flatten_append,ih,List.range_succ,List.map_append]
  rfl
theorem sign_of{n:Nat}{L R:List Bw}{x0 x1:Nat}(op0:∀ x,openG n L R 1 x=decide (x=x0))(op1:∀ x,openG n L R (2 * n+3) x=decide (x=x1))(i x:Nat):
  (if i=2 * n+3/\x=x1 then 64 else if i=1/\x=x0 then 118 else if openG n L R i x then 46 else 35)=signG n L R i x:=by
 unfold signG
 by_cases h1:i=1
 ·subst h1
  have:¬ ((1:Nat)=2 * n+3/\x=x1):=by omega
  rw [if_neg this,op0]
  by_cases e:x=x0
  ·subst e;simp
  ·simp [e]
 ·by_cases h2:i=2 * n+3
  ·subst h2
   rw [op1]
   by_cases e:x=x1
   ·subst e;simp
   ·simp [e]
  ·simp [h1,h2]
def spVetN:Sp:=fun vs H Q _=>∃ m o b ns,vs=[.ref m]/\MazeAt H m o b ns/\Ord ns/\NC b ns/\∀ H',Same H H'->Q (.bl true) H'
def spDrawnN:Sp:=fun vs H Q _=>∃ m o b ns,vs=[.ref m]/\MazeAt H m o b ns/\Ord ns/\NC b ns/\∀ L R H',SideOf b ns false L->SideOf b ns true R->Same H H'->Q (.str (tx (txtG ns.length L R))) H'
end Rm
namespace L2
open PySem PySem.Spec PyProof.Rows
section
variable {prog:Program} {w:World} {A:Around} {E:Value->Shared->Prop} {s:Shared}
theorem iterV_raw{v d:Addr}{o:Obj}{es:Array DictEntry}{ep:Nat}{Q:Value->Shared->Prop}(hv:s.heap.IsValuesView v d)(ho:s.heap.get? d=some o)(hdat:o.data=.dict es ep)
  (hQ:Q (.ref s.heap.objs.size) { s with heap:=s.heap.push { cls:=.type "dict_valueiterator",data:=.fields #[.ref d,.int 0 0,.int es.size 0,.int ep 0] } }):wpAny (model prog w) A (pyIter (.ref v)) Q E s:=by
 obtain⟨ov,hov,hcv,hdv⟩:=id hv
 refine wpAny_pyIter_slot hv.typeIs F.slot_dict_values_iter (wpAny_call_entry F.slot_dict_values_iter hv.typeIs F.entry_dict_values_iter (wpAny_bind (wpAny_pure (wpAny_bind (wpAny_bind (wpAny_field hov hdv (x:=.ref d) rfl (wpAny_pure (wpAny_bind ?_))))))) (F.args_dict_values_iter_1 _))
 refine wpAny_bind (wpAny_dictEntries ho hdat (wpAny_bind (wpAny_dictEpoch ho hdat ?_)))
 simp only [if_neg (show ¬ (Builtin.Dict_items.ownsTuple "dict_valueiterator")=true by decide)]
 refine wpAny_newObj_type (wpAny_pure ⟨_,rfl,"dict_valueiterator",_,⟨_,Heap.get?_push_size _ rfl,rfl⟩,F.slot_dict_valueiterator_next.lookup,?_⟩)
 simpa [rawInt] using hQ
theorem nextV_raw{it d:Addr}{i ep:Nat}{o:Obj}{es:Array DictEntry}{Q:Option Value->Shared->Prop}(hit:s.heap.IsValIter it d i es.size ep)(ho:s.heap.get? d=some o)(hdat:o.data=.dict es ep)(hi:i<es.size)
  (hQ:∀ h',h'.IsValIter it d (i+1) es.size ep->Heap.SameBut it s.heap h'->Q (some es[i].val) { s with heap:=h' }):wpAny (model prog w) A (pyNext (.ref it)) Q E s:=by
 obtain⟨oi,hoi,hc,hd⟩:=id hit
 unfold pyNext
 refine wpAny_bind (wpAny_attempt (wpAny_callSpecial?_slot (name:=Str.ofString "__next__") hit.typeIs F.slot_dict_valueiterator_next (wpAny_call_entry F.slot_dict_valueiterator_next hit.typeIs F.entry_dict_valueiterator_next (wpAny_bind (wpAny_pure (wpAny_bind (wpAny_bind ?_)))) (F.args_dict_valueiterator_next_1 _))))
 first | refine wpAny_bind (wpAny_typeNameOfWhole_valiter hit.typeIs (wpAny_pure (wpAny_bind (wpAny_fieldsOf hoi hd ?_)))) | refine wpAny_bind (wpAny_typeNameOf_valiter hit.typeIs (wpAny_pure (wpAny_bind (wpAny_fieldsOf hoi hd ?_))))
 rw [if_neg (show ¬ (Builtin.Dict_items.ownsTuple "dict_valueiterator")=true by decide)]
 show wpAny _ _ (if (Value.ref d==Value.none)=true then _ else _) _ _ s
 rw [if_neg (show ¬ (Value.ref d==Value.none)=true from Bool.false_ne_true)]
 refine wpAny_bind (wpAny_pure (wpAny_bind (wpAny_dictEntries ho hdat ?_)))
 rw [if_neg (by simp)]
 refine wpAny_bind (wpAny_pure (wpAny_bind (wpAny_dictEpoch ho hdat ?_)))
 rw [if_neg (by simp)]
 refine wpAny_pure ?_
 simp only [show ¬ ((i:Int)<0) from by omega,if_false,Int.toNat_natCast,Array.getElem?_eq_getElem hi]
 refine wpAny_bind ?_
 first | refine wpAny_bind (wpAny_typeNameOfWhole_valiter hit.typeIs (wpAny_pure (wpAny_bind (wpAny_isOneOf_valiter hit.typeIs ?_)))) | refine wpAny_bind (wpAny_typeNameOf_valiter hit.typeIs (wpAny_pure (wpAny_bind (wpAny_isOneOf_valiter hit.typeIs ?_))))
 show wpAny _ _ (setField (.ref it) 1 (rawInt ((i:Int)+1))>>=_) _ _ s
 have hit':(s.heap.update it (Obj.mapFields (·.setIfInBounds 1 (rawInt ((i:Int)+1))))).IsValIter it d (i+1) es.size ep:=⟨_,Heap.get?_update_self _ hoi (Obj.isFreed_of_fields (Obj.data_mapFields hd _)),(Obj.cls_mapFields ..).trans hc,by rw [Obj.data_mapFields hd];simp [rawInt]⟩
 refine wpAny_bind (wpAny_setField hoi hd (by simp) (wpAny_bind (wpAny_holding (wpAny_bind (wpAny_isOneOf_valiter (s:={ s with heap:=s.heap.update it (Obj.mapFields (·.setIfInBounds 1 (rawInt ((i:Int)+1)))) }) hit'.typeIs (wpAny_bind (wpAny_isOneOf_valiter (s:={ s with heap:=s.heap.update it (Obj.mapFields (·.setIfInBounds 1 (rawInt ((i:Int)+1)))) }) hit'.typeIs ?_)))))))
 exact wpAny_pure (a:=es[i].val) (wpAny_pure ⟨_,rfl,wpAny_pure (hQ _ hit' (Heap.SameBut.update ..))⟩)
theorem endV_raw{it d:Addr}{ep:Nat}{o:Obj}{es:Array DictEntry}{Q:Option Value->Shared->Prop}(hh:A.handled=none)(hit:s.heap.IsValIter it d es.size es.size ep)(ho:s.heap.get? d=some o)(hdat:o.data=.dict es ep)
  (hQ:∀ h',Heap.ExtBut it s.heap h'->Q none { s with heap:=h' }):wpAny (model prog w) A (pyNext (.ref it)) Q E s:=by
 obtain⟨oi,hoi,hc,hd⟩:=id hit
 unfold pyNext
 refine wpAny_bind (wpAny_attempt (wpAny_callSpecial?_slot (name:=Str.ofString "__next__") hit.typeIs F.slot_dict_valueiterator_next (wpAny_call_entry F.slot_dict_valueiterator_next hit.typeIs F.entry_dict_valueiterator_next (wpAny_bind (wpAny_pure (wpAny_bind (wpAny_bind ?_)))) (F.args_dict_valueiterator_next_1 _))))
 first | refine wpAny_bind (wpAny_typeNameOfWhole_valiter hit.typeIs (wpAny_pure (wpAny_bind (wpAny_fieldsOf hoi hd ?_)))) | refine wpAny_bind (wpAny_typeNameOf_valiter hit.typeIs (wpAny_pure (wpAny_bind (wpAny_fieldsOf hoi hd ?_))))
 rw [if_neg (show ¬ (Builtin.Dict_items.ownsTuple "dict_valueiterator")=true by decide)]
 show wpAny _ _ (if (Value.ref d==Value.none)=true then _ else _) _ _ s
 rw [if_neg (show ¬ (Value.ref d==Value.none)=true from Bool.false_ne_true)]
 refine wpAny_bind (wpAny_pure (wpAny_bind (wpAny_dictEntries ho hdat ?_)))
 rw [if_neg (by simp)]
 refine wpAny_bind (wpAny_pure (wpAny_bind (wpAny_dictEpoch ho hdat ?_)))
 rw [if_neg (by simp)]
 refine wpAny_pure ?_
 simp only [show ¬ ((es.size:Int)<0) from by omega,if_false,Int.toNat_natCast,Array.getElem?_eq_none (Nat.le_refl es.size)]
 refine wpAny_bind ?_
 first | refine wpAny_bind (wpAny_typeNameOfWhole_valiter hit.typeIs (wpAny_pure ?_)) | refine wpAny_bind (wpAny_typeNameOf_valiter hit.typeIs (wpAny_pure ?_))
 refine wpAny_bind (m:=setField (.ref it) 0 .none) (wpAny_setField hoi hd (by simp) (wpAny_bind (m:=newExc (.type "StopIteration") []) ?_))
 simp only [newExc,newTuple]
 refine wpAny_bind (wpAny_newObj_type (wpAny_bind (m:=firstArgMember _ _) (wpAny_of_eq (a:=Value.none) (by first | rfl | (simp only [firstArgMember];rfl)) (wpAny_newObj_type ?_ (by size_fits)))) (by size_fits))
 simp only [raiseNew]
 refine wpAny_bind (wpAny_handled ?_)
 rw [show A.in1.handled=none from hh]
 refine wpAny_bind (wpAny_pure (wpAny_throw ?_))
 refine wpAny_bind (wpAny_isInstance (T:="StopIteration") (b:=true) ⟨_,Heap.get?_push_size _ rfl,rfl⟩ isSubtype_stop ?_)
 exact wpAny_pure (hQ _ (((Heap.SameBut.update ..).extBut.push _).push _))
end
section
variable {prog:Program} {w:World} {d r:Addr} {o:Obj} {es:Array DictEntry} {ep:Nat}
theorem kd_keys (hd:(d==sysModules)=false) (hx:o.ExactDict) (hdat:o.data=.dict es ep):PySem.W.KdlSrc prog w "dict" d d es.size (fun i v=>∃ e,es[i]? = some e/\v=e.key) (fun h=>h.get? d=some o) where
 type:=fun _ e=>⟨o,e,hx.1⟩
 there:=fun _ e=>⟨Heap.lt_size e,Heap.lt_size e⟩
 keep:=fun _ _ e k=>k d (.inl rfl) o e
 notList:=by decide
 notTuple:=by decide
 hint:=fun _ _ _ _ e hq=>PySem.W.kdl_hint_dict ⟨o,e,hx.1⟩ hq
 iter:=fun A s hh e=>⟨_,fun i h=>h.IsKeyIter s.heap.objs.size d i es.size ep/\h.get? d=some o,fun _ _ hq=>iter_raw hd e hx hdat hq,
  { sub:=(fun b hb=>by simp at hb;simp [hb]),frame:=(fun i h h' st k=>⟨st.1.at fun o e=>k _ (by simp) o e,k d (by simp) o st.2⟩),item:=(fun i s' Q E hi st hQ=>next_raw st.1 st.2 hdat hi fun h' st' sb=>hQ _ h' s'.toks ⟨es[i],by simp [hi],rfl⟩ ⟨st',(sb.2 d (Nat.ne_of_lt (Heap.lt_size e))).trans st.2⟩ fun b o hb e=>(sb.2 b (fun z=>hb (by simp [z]))).trans e),done:=(fun s' Q E st hQ=>end_raw hh st.1 st.2 hdat fun h' eb=>hQ h' s'.toks fun b o hb e=>eb b o (fun z=>hb (by simp [z])) e),self:=(fun _ _ _ _ st hQ=>wpAny_pyIter_keyiter st.1 hQ) },⟨⟨_,Heap.get?_push_size _ rfl,rfl,rfl⟩,Heap.get?_push_of_some _ e⟩⟩
theorem kd_vals (hdat:o.data=.dict es ep):PySem.W.KdlSrc prog w "dict_values" r d es.size (fun i v=>∃ e,es[i]? = some e/\v=e.val) (fun h=>h.IsValuesView r d/\h.get? d=some o) where
 type:=fun _ e=>e.1.typeIs
 there:=fun _ e=>⟨let ⟨_,ho,_⟩:=e.1;Heap.lt_size ho,Heap.lt_size e.2⟩
 keep:=fun _ _ e k=>⟨let ⟨o,ho,x⟩:=e.1;⟨o,k r (.inl rfl) o ho,x⟩,k d (.inr rfl) o e.2⟩
 notList:=by decide
 notTuple:=by decide
 hint:=fun _ _ _ _ e hq=>PySem.W.kdl_hint_values e.1.typeIs hq
 iter:=fun A s hh e=>⟨_,fun i h=>h.IsValIter s.heap.objs.size d i es.size ep/\h.get? d=some o,fun _ _ hq=>iterV_raw e.1 e.2 hdat hq,
  { sub:=(fun b hb=>by simp at hb;simp [hb]),frame:=(fun i h h' st k=>⟨st.1.at fun o e=>k _ (by simp) o e,k d (by simp) o st.2⟩),item:=(fun i s' Q E hi st hQ=>nextV_raw st.1 st.2 hdat hi fun h' st' sb=>hQ _ h' s'.toks ⟨es[i],by simp [hi],rfl⟩ ⟨st',(sb.2 d (Nat.ne_of_lt (Heap.lt_size e.2))).trans st.2⟩ fun b o hb e=>(sb.2 b (fun z=>hb (by simp [z]))).trans e),done:=(fun s' Q E st hQ=>endV_raw hh st.1 st.2 hdat fun h' eb=>hQ h' s'.toks fun b o hb e=>eb b o (fun z=>hb (by simp [z])) e),self:=(fun _ _ _ _ st hQ=>wpAny_pyIter_valiter st.1 hQ) },⟨⟨_,Heap.get?_push_size _ rfl,rfl,rfl⟩,Heap.get?_push_of_some _ e.2⟩⟩
end
section
variable {X:Cx}
theorem items_map{α:Type}{P:Nat->Value->Prop}{acc:Array Value}{l:List α}{f:α->Value}(h:ItemsOf P acc l.length)(e:∀ i v,P i v->∃ x,l[i]? = some x/\v=f x):acc.toList=l.map f:=by
 apply List.ext_getElem?
 intro i
 rw [List.getElem?_map]
 rcases Nat.lt_or_ge i l.length with hi | hi
 ·have h1:acc[i]? = some (acc[i]'(by rw [h.1];exact hi)):=Array.getElem?_eq_getElem _
  obtain⟨x,hx,ev⟩:=e i _ (h.2 i _ h1)
  rw [Array.getElem?_toList,h1,hx,ev]
  rfl
 ·rw [List.getElem?_eq_none hi,List.getElem?_eq_none (by rw [Array.length_toList,h.1];exact hi)]
  rfl
def rListD:List V->Hp->VK->Prop:=fun xs H Q=>∃ (d:Addr) (kvs:List (List Key×V)),xs=[.ref d]/\H d=some (.dT kvs)/\∀ l (as:List Addr),H l=none->Paired (fun (a:Addr) (kv:List Key×V)=>H a=some (.tup (kv.1.map kV))) as kvs->Q (.ref l) (upd H l (.lst (as.map V.ref)))
theorem call_list_dict (hc:X.calm=true):CallR X (.type "list") rListD:=by
 intro pins s σ H xs us Q I r h
 obtain⟨d,kvs,rfl,hd,q⟩:=h
 obtain⟨u,rfl,rx⟩:=vals1 r
 cases rx
 obtain⟨z,y,xs,rp,o,es,ep,ho,ex,ed,el,nd⟩:=(show ObjOk X.prog X.w H s.heap d (.dT kvs) from I.hok d _ hd)
 have h2:kvs.length=xs.length:=Paired.length rp
 have hes:es.size=xs.length:=by
  have h1:es.toList.length=xs.length:=by rw [el,List.length_map]
  rw [<-Array.length_toList];exact h1
 refine PySem.W.kdl_call (kd_keys y ex ed) (I.ok.hd hc) ho (by omega) fun h' tk acc' c' kp e ia=>?_
 rw [hes] at ia
 have ea:acc'.toList=xs.map fun x=>Value.ref x.2.1:=items_map ia fun i v ⟨en,h3,h4⟩=>by
  have e3:es.toList[i]? = some en:=by rw [Array.getElem?_toList];exact h3
  rw [el,List.getElem?_map] at e3
  obtain⟨x,hx,rfl⟩:=Option.map_eq_some_iff.mp e3
  exact⟨x,hx,h4⟩
 have vs:∀ l:List (List Key×Addr×Value),Vals ((l.map fun x=>x.2.1).map V.ref) (l.map fun x=>Value.ref x.2.1):=fun l=>by
  induction l with
  | nil=>exact .nil
  | cons x l ih=>exact .cons rfl ih
 have pr:∀ {kvs:List (List Key×V)} {xs:List (List Key×Addr×Value)},Paired (fun (p:List Key×V) (q:List Key×Addr×Value)=>p.1=q.1/\H q.2.1=some (.tup (p.1.map kV))/\RelV p.2 q.2.2) kvs xs->Paired (fun (a:Addr) (kv:List Key×V)=>H a=some (.tup (kv.1.map kV))) (xs.map fun x=>x.2.1) kvs:=fun {kvs xs} h=>by
  induction h with
  | nil=>exact .nil
  | cons x _ ih=>exact .cons x.2.1 ih
 refine⟨.ref s.heap.objs.size,_,I.laid (t':=tk) kp (Nat.le_refl _) (show ObjOk X.prog X.w _ h' _ (.lst ((xs.map fun x=>x.2.1).map V.ref)) from ⟨by rw [List.length_map,List.length_map];omega,acc'.toList,c',by rw [ea];exact vs xs,by rw [Array.toArray_toList];exact e⟩),rfl,q _ _ (I.hok.fresh (Nat.le_refl _)) (pr rp)⟩
def viewO (d:Addr):HO:=.frz { cls:=.type "dict_values",data:=.fields #[.ref d] } (.own 0)
def rValues:V->List V->Hp->VK->Prop:=fun x vs H Q=>∃ (d:Addr) (kvs:List (List Key×V)),x=.ref d/\vs=[]/\H d=some (.dT kvs)/\∀ vw,H vw=none->Q (.ref vw) (upd H vw (viewO d))
theorem meets_vals {prog:Program} {w:World} (d:Addr) (hd:(d==sysModules)=false):MeetsIn prog w (Builtin.«dict.values» ⟨[.ref d],[]⟩) (fun _ R s=>s.TypeIs (.ref d) "dict"/\R (.ok (.ret (.ref s.heap.objs.size))) { s with heap:=s.heap.push { cls:=.type "dict_values",data:=.fields #[.ref d] } }):=
 .of_wp fun A R s ⟨hT,h⟩=>by
  refine wpAny_bind (wpAny_bind (wpAny_notOrdered_dict hT (wpAny_pure (a:=d) ?_)))
  show wpAny _ _ (Builtin.Dict.showsAll d>>=_) _ _ s
  unfold Builtin.Dict.showsAll
  rw [if_neg (show ¬ (d==sysModules)=true by rw [hd];exact Bool.false_ne_true)]
  exact wpAny_bind (wpAny_pure (wpAny_bind (wpAny_newObj_type (wpAny_pure ⟨_,rfl,h⟩))))
theorem mt_values:MtR X "dict.values" rValues:=by
 intro pins s σ H x vs v us Q I rx rv h
 obtain⟨d,kvs,rfl,rfl,hd,q⟩:=h
 cases rx
 cases rv
 obtain⟨z,y,xs,rp,o,es,ep,ho,ex,ed,el,nd⟩:=(show ObjOk X.prog X.w H s.heap d (.dT kvs) from I.hok d _ hd)
 refine call_meetsIn F.slot_dict_values ⟨o,ho,ex.1⟩ F.entry_dict_values (F.args_dict_values_1 _) (meets_vals d y) ⟨⟨o,ho,ex.1⟩,.ref s.heap.objs.size,_,I.laid (t':=s.toks) (fun b o e=>Heap.get?_push_of_some _ e) (Nat.le_refl _) (show ObjOk X.prog X.w _ _ _ (viewO d) from ⟨Heap.get?_push_size _ rfl,_,Heap.get?_push_size _ rfl⟩),rfl,q _ (I.hok.fresh (Nat.le_refl _))⟩
def rListV:List V->Hp->VK->Prop:=fun xs H Q=>∃ (vw d:Addr) (kvs:List (List Key×V)),xs=[.ref vw]/\H vw=some (viewO d)/\H d=some (.dT kvs)/\∀ l,H l=none->Q (.ref l) (upd H l (.lst (kvs.map (·.2))))
theorem call_list_vals (hc:X.calm=true):CallR X (.type "list") rListV:=by
 intro pins s σ H xs us Q I r h
 obtain⟨vw,d,kvs,rfl,hv,hd,q⟩:=h
 obtain⟨u,rfl,rx⟩:=vals1 r
 cases rx
 obtain⟨z,y,xs,rp,o,es,ep,ho,ex,ed,el,nd⟩:=(show ObjOk X.prog X.w H s.heap d (.dT kvs) from I.hok d _ hd)
 have hV:s.heap.IsValuesView vw d:=⟨_,(show ObjOk X.prog X.w H s.heap vw (viewO d) from I.hok vw _ hv).1,rfl,rfl⟩
 have h2:kvs.length=xs.length:=Paired.length rp
 have hes:es.size=xs.length:=by
  have h1:es.toList.length=xs.length:=by rw [el,List.length_map]
  rw [<-Array.length_toList];exact h1
 refine PySem.W.kdl_call (kd_vals (r:=vw) ed) (I.ok.hd hc) ⟨hV,ho⟩ (by omega) fun h' tk acc' c' kp e ia=>?_
 rw [hes] at ia
 have ea:acc'.toList=xs.map fun x=>x.2.2:=items_map ia fun i v ⟨en,h3,h4⟩=>by
  have e3:es.toList[i]? = some en:=by rw [Array.getElem?_toList];exact h3
  rw [el,List.getElem?_map] at e3
  obtain⟨x,hx,rfl⟩:=Option.map_eq_some_iff.mp e3
  exact⟨x,hx,h4⟩
 have vs:∀ {kvs:List (List Key×V)} {xs:List (List Key×Addr×Value)},Paired (fun (p:List Key×V) (q:List Key×Addr×Value)=>p.1=q.1/\H q.2.1=some (.tup (p.1.map kV))/\RelV p.2 q.2.2) kvs xs->Vals (kvs.map (·.2)) (xs.map fun x=>x.2.2):=fun {kvs xs} h=>by
  induction h with
  | nil=>exact .nil
  | cons x _ ih=>exact .cons x.2.2 ih
 refine⟨.ref s.heap.objs.size,_,I.laid (t':=tk) kp (Nat.le_refl _) (show ObjOk X.prog X.w _ h' _ (.lst (kvs.map (·.2))) from ⟨by rw [List.length_map];omega,acc'.toList,c',by rw [ea];exact vs rp,by rw [Array.toArray_toList];exact e⟩),rfl,q _ (I.hok.fresh (Nat.le_refl _))⟩
end
theorem w_listD{xs:List V}{H:Hp}{Q:VK}:rListD xs H Q=∃ (d:Addr) (kvs:List (List Key×V)),xs=[.ref d]/\H d=some (.dT kvs)/\∀ l (as:List Addr),H l=none->Paired (fun (a:Addr) (kv:List Key×V)=>H a=some (.tup (kv.1.map kV))) as kvs->Q (.ref l) (upd H l (.lst (as.map V.ref))):=rfl
end L2
namespace Rm
open PySem L2 PyProof.Rows
theorem fmax_mem{l m:List Nat}(h:∀ x,x∈l<->x∈m):l.foldl max 0=m.foldl max 0:=
 Nat.le_antisymm (fmax_le 0 (fun x hx=>(fmax_ge 0).2 x ((h x).mp hx)) (Nat.zero_le _)) (fmax_le 0 (fun x hx=>(fmax_ge 0).2 x ((h x).mpr hx)) (Nat.zero_le _))
theorem hN_mem{S T:List Bw}(h:∀ q,q∈S<->q∈T):∀ (k:Nat) (p:Bw),hN S k p=hN T k p
 | 0,_=>rfl
 | k+1,p=>by
  show 1+((S.filter fun q=>inZ q p).map (hN S k)).foldl max 0=1+((T.filter fun q=>inZ q p).map (hN T k)).foldl max 0
  congr 1
  refine fmax_mem fun x=>?_
  constructor
  ·intro hx
   obtain⟨q,hq,rfl⟩:=List.mem_map.mp hx
   obtain⟨h1,h2⟩:=List.mem_filter.mp hq
   exact List.mem_map.mpr ⟨q,List.mem_filter.mpr ⟨(h q).mp h1,h2⟩,(hN_mem h k q).symm⟩
  ·intro hx
   obtain⟨q,hq,rfl⟩:=List.mem_map.mp hx
   obtain⟨h1,h2⟩:=List.mem_filter.mp hq
   exact List.mem_map.mpr ⟨q,List.mem_filter.mpr ⟨(h q).mpr h1,h2⟩,hN_mem h k q⟩
theorem hF_mem{S T:List Bw}(h:∀ q,q∈S<->q∈T)(p:Bw):hF S p=hF T p:=hN_mem h _ p
theorem mxH_mem{S T:List Bw}(h:∀ q,q∈S<->q∈T):mxH S=mxH T:=by
 refine fmax_mem fun x=>?_
 constructor
 ·intro hx
  obtain⟨q,hq,rfl⟩:=List.mem_map.mp hx
  exact List.mem_map.mpr ⟨q,(h q).mp hq,(hF_mem h q).symm⟩
 ·intro hx
  obtain⟨q,hq,rfl⟩:=List.mem_map.mp hx
  exact List.mem_map.mpr ⟨q,(h q).mpr hq,hF_mem h q⟩
theorem opB_mem{S T:List Bw}{c d:Bw->Nat}(h:∀ q,q∈S<->q∈T)(hc:∀ q,c q=d q)(i x:Nat):opB S c i x=opB T d i x:=by
 unfold opB
 rw [Bool.eq_iff_iff,List.any_eq_true,List.any_eq_true]
 constructor
 ·rintro⟨q,hq,e⟩;exact⟨q,(h q).mp hq,by rw [<-hc];exact e⟩
 ·rintro⟨q,hq,e⟩;exact⟨q,(h q).mpr hq,by rw [hc];exact e⟩
def sdS(b:Bool)(ns:List Int)(u:Bool):List Bw:=sideBows b ns u (ns.length+1)
theorem side_ex(b:Bool)(ns:List Int)(u:Bool):∃ L,SideOf b ns u L:=by
 refine⟨(sdS b ns u).mergeSort fun p q=>decide (p.1<q.1\/p.1=q.1/\p.2<=q.2),List.mergeSort_perm _ _,?_⟩
 have:=List.pairwise_mergeSort (le:=fun p q:Bw=>decide (p.1<q.1\/p.1=q.1/\p.2<=q.2)) (fun a b c h1 h2=>?_) (fun a b=>?_) (sdS b ns u)
 ·exact this.imp fun h=>of_decide_eq_true h
 ·have h1:=of_decide_eq_true h1
  have h2:=of_decide_eq_true h2
  exact decide_eq_true (by omega)
 ·rw [Bool.or_eq_true,decide_eq_true_eq,decide_eq_true_eq]
  omega
theorem bws_side{b:Bool}{ns:List Int}(O:Ord ns)(u:Bool):Bws (sdS b ns u):=by
 obtain⟨L,hL⟩:=side_ex b ns u
 have B:=hL.bws O
 have m:∀ q,q∈sdS b ns u->q∈L:=fun q hq=>hL.perm.mem_iff.mpr hq
 exact⟨hL.perm.nodup_iff.mp B.nd,fun p hp=>B.lt p (m p hp),by have:=hL.perm.length_eq;have:=B.len;show (sideBows b ns u (ns.length+1)).length<=40;omega,fun p hp q hq=>B.one p (m p hp) q (m q hq)⟩
theorem sdS_has{b:Bool}{ns:List Int}(O:Ord ns)(u:Bool){r:Nat}(h1:1<=r)(h2:r<=ns.length):∃ p∈sdS b ns u,p.1=(r:Int)\/p.2=(r:Int):=by
 obtain⟨L,hL⟩:=side_ex b ns u
 obtain⟨p,hp,e⟩:=hL.has O h1 h2
 exact⟨p,hL.perm.mem_iff.mp hp,e⟩
theorem side_mx{b:Bool}{ns:List Int}(O:Ord ns)(u:Bool):mxH (sdS b ns u)<=21:=by
 obtain⟨L,hL⟩:=side_ex b ns u
 have e:mxH L=mxH (sdS b ns u):=mxH_mem fun q=>hL.perm.mem_iff
 rw [<-e]
 exact hL.mx O
theorem open_side{b:Bool}{ns:List Int}{L R:List Bw}(O:Ord ns)(hL:SideOf b ns false L)(hR:SideOf b ns true R):∀ i x,openG ns.length L R i x=openG ns.length (sdS b ns false) (sdS b ns true) i x:=by
 have mL:∀ q,q∈L<->q∈sdS b ns false:=fun q=>hL.perm.mem_iff
 have mR:∀ q,q∈R<->q∈sdS b ns true:=fun q=>hR.perm.mem_iff
 have cl:∀ p,cLf L p=cLf (sdS b ns false) p:=fun p=>by unfold cLf;rw [mxH_mem mL,hF_mem mL]
 have cr:∀ p,cRf L R p=cRf (sdS b ns false) (sdS b ns true) p:=fun p=>by unfold cRf;rw [mxH_mem mL,hF_mem mR]
 intro i x
 unfold openG
 rw [opB_mem mL cl,opB_mem mR cr]
 congr 2
 unfold opG
 by_cases z:i % 2=1/\3<=i/\i<=2 * ns.length+1
 ·rw [decide_eq_true z,Bool.true_and,Bool.true_and]
  obtain⟨p,hp,ep⟩:=hL.has O (r:=(i - 1) / 2) (by omega) (by omega)
  obtain⟨q,hq,eq⟩:=hR.has O (r:=(i - 1) / 2) (by omega) (by omega)
  unfold kLf kRf
  rw [bowR_of (hL.bws O) hp ep,bowR_of (hR.bws O) hq eq,bowR_of (bws_side O false) ((mL p).mp hp) ep,bowR_of (bws_side O true) ((mR q).mp hq) eq,cl,cr]
 ·rw [decide_eq_false z];rfl
theorem txt_side{b:Bool}{ns:List Int}{L R:List Bw}(O:Ord ns)(hL:SideOf b ns false L)(hR:SideOf b ns true R):txtG ns.length L R=txtG ns.length (sdS b ns false) (sdS b ns true):=by
 have mL:∀ q,q∈L<->q∈sdS b ns false:=fun q=>hL.perm.mem_iff
 have mR:∀ q,q∈R<->q∈sdS b ns true:=fun q=>hR.perm.mem_iff
 unfold txtG
 congr 1
 refine List.map_congr_left fun i _=>?_
 unfold rowG
 rw [show widG L R=widG (sdS b ns false) (sdS b ns true) by unfold widG;rw [mxH_mem mL,mxH_mem mR]]
 refine List.map_congr_left fun x _=>?_
 unfold signG
 rw [open_side O hL hR]
def bK(p:Bw):List Key:=[.inl p.1,.inl p.2]
theorem bK_inj{p q:Bw}(h:bK p=bK q):p=q:=by
 unfold bK at h
 simp only [List.cons.injEq,Sum.inl.injEq,and_true] at h
 exact Prod.ext h.1 h.2
def tkv(f:Bw->Nat)(ps:List Bw):List (List Key×V):=ps.map fun p=>(bK p,V.int (f p:Nat))
theorem tkv_at{f:Bw->Nat}{p:Bw}:∀ {ps:List Bw},p∈ps->valV (tkv f ps) (bK p)=some (.int (f p:Nat))
 | q::ps,h=>by
  show valV ((bK q,V.int (f q:Nat))::tkv f ps) (bK p)=_
  by_cases e:q=p
  ·subst e;rw [valV_pos rfl]
  ·rw [valV_neg fun z=>e (bK_inj z)]
   rcases List.mem_cons.mp h with z | z
   ·exact absurd z.symm e
   ·exact tkv_at z
theorem tkv_no{f:Bw->Nat}{p:Bw}:∀ {ps:List Bw},p∉ps->valV (tkv f ps) (bK p)=none
 | [],_=>rfl
 | q::ps,h=>by
  show valV ((bK q,V.int (f q:Nat))::tkv f ps) (bK p)=_
  rw [valV_neg fun z=>h (by rw [bK_inj z];simp)]
  exact tkv_no fun z=>h (List.mem_cons_of_mem _ z)
theorem put_last{κ:Type} [DecidableEq κ] {kvs:List (κ×V)} {k:κ} {v y:V} (h:valV kvs k=none):putK (kvs++[(k,v)]) k y=kvs++[(k,y)]:=by
 unfold putK
 rw [if_pos (by simp)]
 rw [List.map_append]
 congr 1
 ·conv=>rhs;rw [<-List.map_id kvs]
  refine List.map_congr_left fun kv hkv=>?_
  have:¬ kv.1=k:=fun e=>by
   have h2:=valV_any k kvs
   rw [h] at h2
   have h3:(kvs.any fun kv=>decide (kv.1=k))=true:=List.any_eq_true.mpr ⟨kv,hkv,decide_eq_true e⟩
   rw [h3] at h2
   cases h2
  rw [if_neg this];rfl
 ·simp
theorem tall_step{S:List Bw}(hS:∀ q∈S,q.1<q.2){p q:Bw}(hp:p.1<p.2)(hq:q∈S)(h:inZ q p=true):hF S q+1<=hF S p:=by
 rw [hF_eq hS hp]
 have:=(fmax_ge (l:=(S.filter fun q=>inZ q p).map (hF S)) 0).2 (hF S q) (List.mem_map.mpr ⟨q,List.mem_filter.mpr ⟨hq,h⟩,rfl⟩)
 omega
theorem tall_end{S:List Bw}(hS:∀ q∈S,q.1<q.2){p:Bw}{v:Nat}(hp:p.1<p.2)(h1:1<=v)(h2:v<=hF S p)(h3:∀ q∈S,inZ q p=true->hF S q+1<=v):v=hF S p:=by
 refine Nat.le_antisymm h2 ?_
 rw [hF_eq hS hp]
 rcases fmax_in (l:=(S.filter fun q=>inZ q p).map (hF S)) 0 with e | e
 ·rw [e];omega
 ·obtain⟨q,hq,e'⟩:=List.mem_map.mp e
  rw [<-e']
  have:=h3 q (List.mem_filter.mp hq).1 (List.mem_filter.mp hq).2
  omega
theorem max_vals{S ps:List Bw}(h:∀ p,p∈ps<->p∈S){M:Int}(h1:M∈(0:Int)::ps.map fun p=>((hF S p:Nat):Int))(h2:∀ a∈(0:Int)::ps.map (fun p=>((hF S p:Nat):Int)),a<=M):M=(mxH S:Nat):=by
 have g1:∀ p∈S,((hF S p:Nat):Int)<=M:=fun p hp=>h2 _ (List.mem_cons_of_mem _ (List.mem_map.mpr ⟨p,(h p).mpr hp,rfl⟩))
 have g0:(0:Int)<=M:=h2 0 (by simp)
 have g2:((mxH S:Nat):Int)<=M:=by
  rcases fmax_in (l:=S.map (hF S)) 0 with e | e
  ·unfold mxH;rw [e];exact g0
  ·obtain⟨q,hq,e'⟩:=List.mem_map.mp e
   have:=g1 q hq
   unfold mxH
   rw [<-e']
   exact this
 rcases List.mem_cons.mp h1 with z | z
 ·omega
 ·obtain⟨p,hp,e⟩:=List.mem_map.mp z
  have:=mxH_ge ((h p).mp hp)
  omega
def spTall:Sp:=fun vs H Q _=>∃ l S,vs=[.ref l]/\BowsAt H l S/\Bws S/\(∀ p∈S,p.2 - p.1<=21)/\∀ d ps H',H d=none->Same H H'->(∀ p,p∈ps<->p∈S)->ps.length<=40->H' d=some (.dT (tkv (hF S) ps))->Q (.ref d) H'
def sK(i x:Nat):List Key:=[.inl (i:Int),.inl (x:Int)]
theorem sK_inj{i x j y:Nat}(h:sK i x=sK j y):i=j/\x=y:=by
 unfold sK at h
 simp only [List.cons.injEq,Sum.inl.injEq,and_true] at h
 omega
def Sg(kvs:List (List Key×V))(F:Nat->Nat->Option V):Prop:=∀ i x,valV kvs (sK i x)=F i x
theorem Sg.put{kvs:List (List Key×V)}{F G:Nat->Nat->Option V}(h:Sg kvs F)(i x:Nat)(v:V)(e:∀ i' x',(if i'=i/\x'=x then some v else F i' x')=G i' x'):Sg (putK kvs (sK i x) v) G:=fun i' x'=>by
 rw [valV_put,<-e i' x']
 by_cases z:i'=i/\x'=x
 ·rw [if_pos z,if_pos (by rw [z.1,z.2])]
 ·rw [if_neg z,if_neg fun w=>z (sK_inj w)]
  exact h i' x'
def sgC(n i:Nat):Nat:=if i=1 then 118 else if i=2 * n+3 then 64 else 46
def Fo(n:Nat)(P:Nat->Nat->Bool):Nat->Nat->Option V:=fun i x=>if P i x then some (sg1 (sgC n i)) else none
def Fl(n:Nat)(P:Nat->Nat->Bool)(p:Bw)(c t j:Nat):Nat->Nat->Option V:=fun i x=>
 if x=c/\2 * p.1+1<=(i:Int)/\(i:Int)<2 * p.1+1+j then some (sg1 (if 1<=t/\i=1 then 118 else if 2<=t/\i=2 * n+3 then 64 else 46)) else Fo n P i x
theorem Fl_done{n:Nat}{P:Nat->Nat->Bool}{p:Bw}{c j:Nat}(hj:(j:Int)=2 * p.2+1 - 2 * p.1):Fl n P p c 2 j=Fo n fun i x=>P i x || (inL p i&&decide (x=c)):=by
 funext i x
 unfold Fl Fo inL sgC
 by_cases z:x=c/\2 * p.1+1<=(i:Int)/\(i:Int)<2 * p.1+1+j
 ·rw [if_pos z]
  have hP:(P i x || (decide (2 * p.1+1<=(i:Int))&&decide ((i:Int)<=2 * p.2+1)&&decide (x=c)))=true:=by
   rw [Bool.or_eq_true]
   right
   simp only [Bool.and_eq_true,decide_eq_true_eq]
   omega
  have e1:(if 1<=2/\i=1 then 118 else if 2<=2/\i=2 * n+3 then 64 else 46)=(if i=1 then 118 else if i=2 * n+3 then 64 else 46):=by simp
  rw [e1]
  exact (if_pos hP).symm
 ·rw [if_neg z]
  have:(P i x || (decide (2 * p.1+1<=(i:Int))&&decide ((i:Int)<=2 * p.2+1)&&decide (x=c)))=P i x:=by
   have:(decide (2 * p.1+1<=(i:Int))&&decide ((i:Int)<=2 * p.2+1)&&decide (x=c))=false:=by
    rw [Bool.eq_false_iff]
    intro w
    simp only [Bool.and_eq_true,decide_eq_true_eq] at w
    omega
   rw [this,Bool.or_false]
  simp only [this]
theorem Fl_0{n:Nat}{P:Nat->Nat->Bool}{p:Bw}{c:Nat}:Fl n P p c 0 0=Fo n P:=by
 funext i x
 unfold Fl
 rw [if_neg (by omega)]
theorem Fl_line{n:Nat}{P:Nat->Nat->Bool}{p:Bw}{c j y:Nat}(hy:(y:Int)=2 * p.1+1+j)(i x:Nat):(if i=y/\x=c then some (sg1 46) else Fl n P p c 0 j i x)=Fl n P p c 0 (j+1) i x:=by
 unfold Fl
 by_cases z:i=y/\x=c
 ·rw [if_pos z,if_pos (by omega)]
  simp
 ·rw [if_neg z]
  by_cases w:x=c/\2 * p.1+1<=(i:Int)/\(i:Int)<2 * p.1+1+j
  ·rw [if_pos w,if_pos (show x=c/\2 * p.1+1<=(i:Int)/\(i:Int)<2 * p.1+1+((j+1:Nat):Int) by omega)]
  ·rw [if_neg w,if_neg (show ¬ (x=c/\2 * p.1+1<=(i:Int)/\(i:Int)<2 * p.1+1+((j+1:Nat):Int)) by omega)]
theorem Fl_v{n:Nat}{P:Nat->Nat->Bool}{p:Bw}{c j:Nat}(h:p.1=0)(hj:0<j)(i x:Nat):(if i=1/\x=c then some (sg1 118) else Fl n P p c 0 j i x)=Fl n P p c 1 j i x:=by
 unfold Fl
 by_cases z:i=1/\x=c
 ·rw [if_pos z,if_pos (by omega),if_pos (by omega)]
 ·rw [if_neg z]
  by_cases w:x=c/\2 * p.1+1<=(i:Int)/\(i:Int)<2 * p.1+1+j
  ·rw [if_pos w,if_pos w,if_neg (by omega),if_neg (by omega),if_neg (by omega),if_neg (by omega)]
  ·rw [if_neg w,if_neg w]
theorem Fl_nv{n:Nat}{P:Nat->Nat->Bool}{p:Bw}{c j:Nat}(h:0<p.1):Fl n P p c 0 j=Fl n P p c 1 j:=by
 funext i x
 unfold Fl
 by_cases w:x=c/\2 * p.1+1<=(i:Int)/\(i:Int)<2 * p.1+1+j
 ·rw [if_pos w,if_pos w,if_neg (by omega),if_neg (by omega),if_neg (by omega),if_neg (by omega)]
 ·rw [if_neg w,if_neg w]
theorem Fl_m{n:Nat}{P:Nat->Nat->Bool}{p:Bw}{c j:Nat}(h:p.2=(n:Int)+1)(h0:0<=p.1)(hp:p.1<p.2)(hj:(j:Int)=2 * p.2+1 - 2 * p.1)(i x:Nat):(if i=2 * n+3/\x=c then some (sg1 64) else Fl n P p c 1 j i x)=Fl n P p c 2 j i x:=by
 unfold Fl
 by_cases z:i=2 * n+3/\x=c
 ·rw [if_pos z,if_pos (by omega),if_neg (by omega),if_pos (by omega)]
 ·rw [if_neg z]
  by_cases w:x=c/\2 * p.1+1<=(i:Int)/\(i:Int)<2 * p.1+1+j
  ·rw [if_pos w,if_pos w]
   by_cases y:i=1
   ·rw [if_pos (by omega),if_pos (by omega)]
   ·rw [if_neg (by omega),if_neg (by omega),if_neg (by omega),if_neg (by omega)]
  ·rw [if_neg w,if_neg w]
theorem Fl_nm{n:Nat}{P:Nat->Nat->Bool}{p:Bw}{c j:Nat}(h:p.2<(n:Int)+1)(hj:(j:Int)=2 * p.2+1 - 2 * p.1):Fl n P p c 1 j=Fl n P p c 2 j:=by
 funext i x
 unfold Fl
 by_cases w:x=c/\2 * p.1+1<=(i:Int)/\(i:Int)<2 * p.1+1+j
 ·rw [if_pos w,if_pos w]
  by_cases y:i=1
  ·rw [if_pos (by omega),if_pos (by omega)]
  ·rw [if_neg (by omega),if_neg (by omega),if_neg (by omega),if_neg (by omega)]
 ·rw [if_neg w,if_neg w]
theorem Fo_congr{n:Nat}{P P':Nat->Nat->Bool}{kvs:List (List Key×V)}(h:Sg kvs (Fo n P))(e:∀ i x,P i x=P' i x):Sg kvs (Fo n P'):=fun i x=>by rw [h i x];unfold Fo;rw [e]
theorem ColAt.add{S T:List Bw}{c:Bw->Nat}{kv:List (Key×V)}{p:Bw}(BS:Bws S)(hT:∀ q∈T,q∈S)(hp:p∈S)(ca:ColAt kv T c):ColAt (putK (putK kv (.inl p.1:Key) (.int (c p:Nat))) (.inl p.2:Key) (.int (c p:Nat))) (T++[p]) c:=by
 intro q hq
 have qS:q∈S:=by
  rcases List.mem_append.mp hq with h | h
  ·exact hT q h
  ·rw [show q=p by simpa using h];exact hp
 have key:∀ x,(q.1=x\/q.2=x)->valV (putK (putK kv (.inl p.1:Key) (.int (c p:Nat))) (.inl p.2:Key) (.int (c p:Nat))) (.inl x:Key)=some (.int (c q:Nat)):=fun x hx=>by
  rw [valV_put]
  by_cases z:(.inl x:Key)=.inl p.2
  ·rw [if_pos z,BS.one q qS p hp x hx (.inr (Sum.inl.inj z).symm)]
  ·rw [if_neg z,valV_put]
   by_cases y:(.inl x:Key)=.inl p.1
   ·rw [if_pos y,BS.one q qS p hp x hx (.inl (Sum.inl.inj y).symm)]
   ·rw [if_neg y]
    rcases List.mem_append.mp hq with h | h
    ·rcases hx with e | e
     ·rw [<-e];exact (ca q h).1
     ·rw [<-e];exact (ca q h).2
    ·have e:q=p:=by simpa using h
     subst e
     rcases hx with e | e
     ·exact absurd (by rw [e]) y
     ·exact absurd (by rw [e]) z
 exact⟨key _ (.inl rfl),key _ (.inr rfl)⟩
def tkS(S:List Bw)(k i j:Nat):List Bw:=S.take (if k<i then 100 else if k=i then j else 0)
theorem tkS_next{S:List Bw}(h:S.length<=100)(k i:Nat):tkS S k i S.length=tkS S k (i+1) 0:=by
 unfold tkS
 by_cases h1:k<i
 ·rw [if_pos h1,if_pos (by omega)]
 ·rw [if_neg h1]
  by_cases h2:k=i
  ·rw [if_pos h2,if_pos (by omega),List.take_length,List.take_of_length_le h]
  ·rw [if_neg h2,if_neg (by omega)]
   by_cases h3:k=i+1
   ·rw [if_pos h3]
   ·rw [if_neg h3]
theorem tkS_mem{S:List Bw}{k i j:Nat}{p:Bw}(h:p∈tkS S k i j):p∈S:=List.mem_of_mem_take h
theorem tkS_step{S:List Bw}{i j:Nat}{p:Bw}(h:S[j]? = some p):tkS S i i (j+1)=tkS S i i j++[p]:=by
 unfold tkS
 rw [if_neg (Nat.lt_irrefl i),if_pos rfl,if_neg (Nat.lt_irrefl i),if_pos rfl,List.take_add_one,h]
 rfl
theorem tkS_off{S:List Bw}{k i j:Nat}(h:k≠i):tkS S k i (j+1)=tkS S k i j:=by
 unfold tkS
 rw [if_neg h,if_neg h]
theorem tkS_all{S:List Bw}{k i:Nat}(h:S.length<=100)(hk:k<i):tkS S k i 0=S:=by
 unfold tkS
 rw [if_pos hk,List.take_of_length_le h]
theorem opB_snoc(T:List Bw)(p:Bw)(c:Bw->Nat)(i x:Nat):opB (T++[p]) c i x=(opB T c i x || (inL p i&&decide (x=c p))):=by
 unfold opB
 rw [List.any_append]
 simp
def rgA(rs:List Int)(kL kR:Nat->Nat)(i x:Nat):Bool:=rs.any fun r=>decide ((i:Int)=2 * r+1)&&(decide (kL r.toNat<=x)&&decide (x<=kR r.toNat))
theorem rgA_snoc(T:List Int)(r:Int)(kL kR:Nat->Nat)(i x:Nat):rgA (T++[r]) kL kR i x=(rgA T kL kR i x || (decide ((i:Int)=2 * r+1)&&(decide (kL r.toNat<=x)&&decide (x<=kR r.toNat)))):=by
 unfold rgA
 rw [List.any_append]
 simp
theorem Fo_put{kvs:List (List Key×V)}{n i0 x0:Nat}{P P':Nat->Nat->Bool}(h:Sg kvs (Fo n P))(h0:sgC n i0=46)(e:∀ i x,P' i x=(P i x || decide (i=i0/\x=x0))):Sg (putK kvs (sK i0 x0) (sg1 46)) (Fo n P'):=h.put i0 x0 _ fun i x=>by
 unfold Fo
 rw [e]
 by_cases z:i=i0/\x=x0
 ·rw [if_pos z,decide_eq_true z,Bool.or_true,if_pos rfl,z.1,h0]
 ·rw [if_neg z,decide_eq_false z,Bool.or_false]
theorem rgA_all{ns:List Int}(O:Ord ns)(kL kR:Nat->Nat)(i x:Nat):rgA ns kL kR i x=opG ns.length kL kR i x:=by
 unfold rgA opG
 rw [Bool.eq_iff_iff,List.any_eq_true]
 simp only [Bool.and_eq_true,decide_eq_true_eq]
 constructor
 ·rintro⟨r,hr,h1,h2,h3⟩
  have:=O.mem.mp hr
  have e:(i - 1) / 2=r.toNat:=by omega
  rw [e]
  exact⟨⟨by omega,by omega,by omega⟩,h2,h3⟩
 ·rintro⟨⟨h1,h2,h3⟩,h4,h5⟩
  refine⟨(((i - 1) / 2:Nat):Int),O.mem.mpr ⟨by omega,by omega⟩,by omega,?_,?_⟩
  ·rw [Int.toNat_natCast];exact h4
  ·rw [Int.toNat_natCast];exact h5
def spDrawing:Sp:=fun vs H Q _=>∃ m o b ns,vs=[.ref m]/\MazeAt H m o b ns/\Ord ns/\∀ H',Same H H'->Q (.str (tx (txtG ns.length (sdS b ns false) (sdS b ns true)))) H'
end Rm
namespace L2
open PySem PySem.Spec PyProof.Rows
abbrev TH:=Ends->St->Addr->Option Addr->Hp->Prop
def hNil:TH:=fun _ _ _ _ _=>False
def hCons(K:PySem.W.Frag)(c:Value)(ts:Addr->TS)(th:TH):TH:=fun D σ C dO H2=>(PySem.W.exmOne K (.ref C) c=some true/\∀ a,H2 a=none->ts a D σ (upd H2 a (excD dO C a)))\/(PySem.W.exmOne K (.ref C) c=some false/\th D σ C dO H2)
def hAs(K:PySem.W.Frag)(c:Value)(i:Nat)(ts:Addr->TS)(th:TH):TH:=fun D σ C dO H2=>(PySem.W.exmOne K (.ref C) c=some true/\∀ a,H2 a=none->ts a { nx:=fun σ' H'=>D.nx (σ'.set i none) H',rt:=D.rt,bk:=fun σ' H'=>D.bk (σ'.set i none) H',ct:=fun σ' H'=>D.ct (σ'.set i none) H' } (σ.set i (some (.ref a))) (upd H2 a (excD dO C a)))\/(PySem.W.exmOne K (.ref C) c=some false/\th D σ C dO H2)
section
variable {X:Cx}
def tTryG(tb:XK->TS)(th:TH):TS:=fun D σ H=>tb (fun cls dO H2=>∃ C,cls=Value.ref C/\th D σ C dO H2) D σ H
section
variable {k:Nat} {st:Stmt} {ps:List Str} {sp:Sp} {x:Str} {e:Expr} {es:List Expr} {t:TA} {p cpos:Pos}
def bExpr(sp:Sp)(t:TA):XK->TS:=fun E D σ H=>t σ H fun vs H1=>sp vs H1 (fun _ H2=>D.nx σ H2) E
def bAsg(sp:Sp)(j:Nat)(t:TA):XK->TS:=fun E D σ H=>t σ H fun vs H1=>sp vs H1 (fun v H2=>D.nx (σ.set j (some v)) H2) E
def bTup(sp:Sp)(z:Str)(t:TA):XK->TS:=fun E D σ H=>t σ H fun vs H1=>sp vs H1 (fun v H2=>∀ q,H2 q=none->D.rt (.ref q) (upd H2 q (.tup [.str z,v]))) E
def bLst(sp:Sp)(z:Str)(t:TA):XK->TS:=fun E D σ H=>t σ H fun vs H1=>sp vs H1 (fun v H2=>∀ q,H2 q=none->D.rt (.ref q) (upd H2 q (.lst [.str z,v]))) E
end
end
section
variable {σ:St} {H H2:Hp} {D:Ends} {E:XK} {C:Addr} {dO:Option Addr} {K:PySem.W.Frag} {c:Value} {sp:Sp} {t:TA} {ts:Addr->TS} {th:TH} {tb:XK->TS} {z:Str} {i j:Nat}
theorem w_tryG:tTryG tb th D σ H=tb (fun cls dO H2=>∃ C,cls=Value.ref C/\th D σ C dO H2) D σ H:=rfl
theorem w_hNil:hNil D σ C dO H2=False:=rfl
theorem w_hCons:hCons K c ts th D σ C dO H2=((PySem.W.exmOne K (.ref C) c=some true/\∀ a,H2 a=none->ts a D σ (upd H2 a (excD dO C a)))\/(PySem.W.exmOne K (.ref C) c=some false/\th D σ C dO H2)):=rfl
theorem w_hAs:hAs K c i ts th D σ C dO H2=((PySem.W.exmOne K (.ref C) c=some true/\∀ a,H2 a=none->ts a { nx:=fun σ' H'=>D.nx (σ'.set i none) H',rt:=D.rt,bk:=fun σ' H'=>D.bk (σ'.set i none) H',ct:=fun σ' H'=>D.ct (σ'.set i none) H' } (σ.set i (some (.ref a))) (upd H2 a (excD dO C a)))\/(PySem.W.exmOne K (.ref C) c=some false/\th D σ C dO H2)):=rfl
theorem w_bExpr:bExpr sp t E D σ H=t σ H fun vs H1=>sp vs H1 (fun _ H2=>D.nx σ H2) E:=rfl
theorem w_bAsg:bAsg sp j t E D σ H=t σ H fun vs H1=>sp vs H1 (fun v H2=>D.nx (σ.set j (some v)) H2) E:=rfl
theorem w_bTup:bTup sp z t E D σ H=t σ H fun vs H1=>sp vs H1 (fun v H2=>∀ q,H2 q=none->D.rt (.ref q) (upd H2 q (.tup [.str z,v]))) E:=rfl
theorem w_bLst:bLst sp z t E D σ H=t σ H fun vs H1=>sp vs H1 (fun v H2=>∀ q,H2 q=none->D.rt (.ref q) (upd H2 q (.lst [.str z,v]))) E:=rfl
end
end L2
namespace Rm
open PySem L2 PyProof.Rows
def top(i:Nat):Stmt:=PySem.Challenge.pw_ringmaze_k11_drawings.main.body.getD i (.Pass ⟨0,0,0,0⟩)
abbrev s_crossing:Stmt:=top 1
theorem sc_crossing:FnScope ["bows","a","b","c","d"] ["bows"] (defScope s_crossing):=⟨rfl,rfl,rfl,by decide +kernel,rfl,by decide +kernel,by decide +kernel⟩
abbrev s_span:Stmt:=top 2
theorem sc_span:FnScope ["bow"] ["bow"] (defScope s_span):=⟨rfl,rfl,rfl,by decide +kernel,rfl,by decide +kernel,by decide +kernel⟩
abbrev s_lies_within:Stmt:=top 3
theorem sc_lies_within:FnScope ["inner","outer"] ["inner","outer"] (defScope s_lies_within):=⟨rfl,rfl,rfl,by decide +kernel,rfl,by decide +kernel,by decide +kernel⟩
abbrev s_heights:Stmt:=top 4
theorem sc_heights:FnScope ["bows","known","bow","inner"] ["bows"] (defScope s_heights):=⟨rfl,rfl,rfl,by decide +kernel,rfl,by decide +kernel,by decide +kernel⟩
abbrev s_is_whole:Stmt:=top 12
theorem sc_is_whole:FnScope ["thing"] ["thing"] (defScope s_is_whole):=⟨rfl,rfl,rfl,by decide +kernel,rfl,by decide +kernel,by decide +kernel⟩
abbrev s_is_side:Stmt:=top 13
theorem sc_is_side:FnScope ["thing"] ["thing"] (defScope s_is_side):=⟨rfl,rfl,rfl,by decide +kernel,rfl,by decide +kernel,by decide +kernel⟩
abbrev s_is_order:Stmt:=top 14
theorem sc_is_order:FnScope ["thing"] ["thing"] (defScope s_is_order):=⟨rfl,rfl,rfl,by decide +kernel,rfl,by decide +kernel,by decide +kernel⟩
abbrev s_is_maze:Stmt:=top 15
theorem sc_is_maze:FnScope ["thing"] ["thing"] (defScope s_is_maze):=⟨rfl,rfl,rfl,by decide +kernel,rfl,by decide +kernel,by decide +kernel⟩
abbrev s_other_side:Stmt:=top 17
theorem sc_other_side:FnScope ["side"] ["side"] (defScope s_other_side):=⟨rfl,rfl,rfl,by decide +kernel,rfl,by decide +kernel,by decide +kernel⟩
abbrev s_side_of_step:Stmt:=top 18
theorem sc_side_of_step:FnScope ["maze","step","side"] ["maze","step"] (defScope s_side_of_step):=⟨rfl,rfl,rfl,by decide +kernel,rfl,by decide +kernel,by decide +kernel⟩
abbrev s_rows_of_way:Stmt:=top 19
theorem sc_rows_of_way:FnScope ["maze","order"] ["maze"] (defScope s_rows_of_way):=⟨rfl,rfl,rfl,by decide +kernel,rfl,by decide +kernel,by decide +kernel⟩
abbrev s_bows_of:Stmt:=top 20
theorem sc_bows_of:FnScope ["maze","rows","told","step","bow"] ["maze"] (defScope s_bows_of):=⟨rfl,rfl,rfl,by decide +kernel,rfl,by decide +kernel,by decide +kernel⟩
abbrev s_crossed:Stmt:=top 21
theorem sc_crossed:FnScope ["maze","side","bows","found"] ["maze"] (defScope s_crossed):=⟨rfl,rfl,rfl,by decide +kernel,rfl,by decide +kernel,by decide +kernel⟩
abbrev s_vet:Stmt:=top 22
theorem sc_vet:FnScope ["maze","found"] ["maze"] (defScope s_vet):=⟨rfl,rfl,rfl,by decide +kernel,rfl,by decide +kernel,by decide +kernel⟩
abbrev s_line_of:Stmt:=top 28
theorem sc_line_of:FnScope ["row"] ["row"] (defScope s_line_of):=⟨rfl,rfl,rfl,by decide +kernel,rfl,by decide +kernel,by decide +kernel⟩
abbrev s_greatest_height:Stmt:=top 29
theorem sc_greatest_height:FnScope ["bows"] ["bows"] (defScope s_greatest_height):=⟨rfl,rfl,rfl,by decide +kernel,rfl,by decide +kernel,by decide +kernel⟩
abbrev s_by_row:Stmt:=top 30
theorem sc_by_row:FnScope ["bows","columns","told","bow","column"] ["bows","columns"] (defScope s_by_row):=⟨rfl,rfl,rfl,by decide +kernel,rfl,by decide +kernel,by decide +kernel⟩
abbrev s_left_columns:Stmt:=top 31
theorem sc_left_columns:FnScope ["bows","most_left"] ["bows","most_left"] (defScope s_left_columns):=⟨rfl,rfl,rfl,by decide +kernel,rfl,by decide +kernel,by decide +kernel⟩
abbrev s_right_columns:Stmt:=top 32
theorem sc_right_columns:FnScope ["bows","most_left"] ["bows","most_left"] (defScope s_right_columns):=⟨rfl,rfl,rfl,by decide +kernel,rfl,by decide +kernel,by decide +kernel⟩
abbrev s_carve_bows:Stmt:=top 33
theorem sc_carve_bows:FnScope ["grid","bows","columns","a","b","line"] ["grid","bows","columns"] (defScope s_carve_bows):=⟨rfl,rfl,rfl,by decide +kernel,rfl,by decide +kernel,by decide +kernel⟩
abbrev s_carve_rings:Stmt:=top 34
theorem sc_carve_rings:FnScope ["grid","rings","lefts","rights","ring","column"] ["grid","rings","lefts","rights"] (defScope s_carve_rings):=⟨rfl,rfl,rfl,by decide +kernel,rfl,by decide +kernel,by decide +kernel⟩
abbrev s_mark:Stmt:=top 35
theorem sc_mark:FnScope ["line","sign"] ["line","sign"] (defScope s_mark):=⟨rfl,rfl,rfl,by decide +kernel,rfl,by decide +kernel,by decide +kernel⟩
abbrev s_drawn:Stmt:=top 36
theorem sc_drawn:FnScope ["maze","rings","bows","most_left","most_right","lefts","rights","grid"] ["maze"] (defScope s_drawn):=⟨rfl,rfl,rfl,by decide +kernel,rfl,by decide +kernel,by decide +kernel⟩
abbrev s_cell_at:Stmt:=top 38
theorem sc_cell_at:FnScope ["_law_script","_law_k"] ["_law_script","_law_k"] (defScope s_cell_at):=⟨rfl,rfl,rfl,by decide +kernel,rfl,by decide +kernel,by decide +kernel⟩
abbrev s_mix:Stmt:=top 39
theorem sc_mix:FnScope ["_law_seed","_law_k","_law_number"] ["_law_seed","_law_k"] (defScope s_mix):=⟨rfl,rfl,rfl,by decide +kernel,rfl,by decide +kernel,by decide +kernel⟩
abbrev s_digits:Stmt:=top 40
theorem sc_digits:FnScope ["_law_cell","_law_base","_law_many","_law_rest","_law_found","_law_k","_law_digit"] ["_law_cell","_law_base"] (defScope s_digits):=⟨rfl,rfl,rfl,by decide +kernel,rfl,by decide +kernel,by decide +kernel⟩
abbrev s_can:Stmt:=top 41
theorem sc_can:FnScope ["_law_open_ends","_law_letter","_law_near","_law_far"] ["_law_open_ends","_law_letter"] (defScope s_can):=⟨rfl,rfl,rfl,by decide +kernel,rfl,by decide +kernel,by decide +kernel⟩
abbrev s_put:Stmt:=top 42
theorem sc_put:FnScope ["_law_open_ends","_law_found","_law_letter","_law_row","_law_near","_law_far","_law_ends","_law_piece","_law_side","_law_k"] ["_law_open_ends","_law_found","_law_letter","_law_row"] (defScope s_put):=⟨rfl,rfl,rfl,by decide +kernel,rfl,by decide +kernel,by decide +kernel⟩
abbrev s_ended:Stmt:=top 43
theorem sc_ended:FnScope ["_law_open_ends","_law_found","_law_row","_law_near","_law_far","_law_ends","_law_target","_law_letter"] ["_law_open_ends","_law_found","_law_row"] (defScope s_ended):=⟨rfl,rfl,rfl,by decide +kernel,rfl,by decide +kernel,by decide +kernel⟩
abbrev s_need:Stmt:=top 44
theorem sc_need:FnScope ["_law_many"] ["_law_many"] (defScope s_need):=⟨rfl,rfl,rfl,by decide +kernel,rfl,by decide +kernel,by decide +kernel⟩
abbrev s_fitting:Stmt:=top 45
theorem sc_fitting:FnScope ["_law_open_ends","_law_row","_law_digit","_law_many","_law_found","_law_letter","_law_after"] ["_law_open_ends","_law_row","_law_digit"] (defScope s_fitting):=⟨rfl,rfl,rfl,by decide +kernel,rfl,by decide +kernel,by decide +kernel⟩
abbrev s_grown:Stmt:=top 46
theorem sc_grown:FnScope ["_law_side","_law_digits_here","_law_open_ends","_law_found","_law_row","_law_digit","_law_letters"] ["_law_side","_law_digits_here"] (defScope s_grown):=⟨rfl,rfl,rfl,by decide +kernel,rfl,by decide +kernel,by decide +kernel⟩
abbrev s_order_of:Stmt:=top 47
theorem sc_order_of:FnScope ["_law_side","_law_found","_law_order","_law_row","_law_k","_law_last","_law_bow","_law_after"] ["_law_side","_law_found"] (defScope s_order_of):=⟨rfl,rfl,rfl,by decide +kernel,rfl,by decide +kernel,by decide +kernel⟩
abbrev s_drawable:Stmt:=top 48
theorem sc_drawable:FnScope ["_law_side","_law_digits_here"] ["_law_side","_law_digits_here"] (defScope s_drawable):=⟨rfl,rfl,rfl,by decide +kernel,rfl,by decide +kernel,by decide +kernel⟩
abbrev s_bows:Stmt:=top 49
theorem sc_bows:FnScope ["_law_maze","_law_rows","_law_found","_law_k","_law_j"] ["_law_maze"] (defScope s_bows):=⟨rfl,rfl,rfl,by decide +kernel,rfl,by decide +kernel,by decide +kernel⟩
abbrev s_tall:Stmt:=top 51
theorem sc_tall:FnScope ["_law_bows_here","_law_tall_here","_law_width","_law_bow","_law_one"] ["_law_bows_here"] (defScope s_tall):=⟨rfl,rfl,rfl,by decide +kernel,rfl,by decide +kernel,by decide +kernel⟩
abbrev s_drawing:Stmt:=top 52
theorem sc_drawing:FnScope ["_law_maze","_law_bows_here","_law_tall_here","_law_over","_law_columns","_law_last","_law_signs","_law_at","_law_k","_law_bow","_law_column","_law_line","_law_row","_law_ring","_law_lines"] ["_law_maze"] (defScope s_drawing):=⟨rfl,rfl,rfl,by decide +kernel,rfl,by decide +kernel,by decide +kernel⟩
abbrev s_law:Stmt:=top 53
theorem sc_law:FnScope ["_law_script","_law_maze","_law_found"] ["_law_script"] (defScope s_law):=⟨rfl,rfl,rfl,by decide +kernel,rfl,by decide +kernel,by decide +kernel⟩
structure Blt (mg:Str->Option Value):Prop where
 len:mg "len"=none
 range:mg "range"=none
 int:mg "int"=none
 list:mg "list"=none
 tuple:mg "tuple"=none
 isinstance:mg "isinstance"=none
 str:mg "str"=none
 bool:mg "bool"=none
 sorted:mg "sorted"=none
 all:mg "all"=none
 any:mg "any"=none
 zip:mg "zip"=none
 max:mg "max"=none
 min:mg "min"=none
 reversed:mg "reversed"=none
 ValueError:mg "ValueError"=none
 MOST_RINGS:∃ t,mg "MOST_RINGS"=some (.int 20 t)
 WALL:∃ t,mg "WALL"=some (.str (Str.ofString "#") t)
 OPEN_CELL:∃ t,mg "OPEN_CELL"=some (.str (Str.ofString ".") t)
 MOUTH:∃ t,mg "MOUTH"=some (.str (Str.ofString "v") t)
 MIDDLE:∃ t,mg "MIDDLE"=some (.str (Str.ofString "@") t)
local macro_rules | `(tactic| walk_at "wp") => `(tactic| (try dsimp (maxSteps := 3000000) only [L2.w_varS, L2.w_c, L2.w_op, L2.w_un, L2.w_aug, L2.w_K, L2.w_test, L2.w_tB, L2.w_and, L2.w_or, L2.w_not, L2.w_andV, L2.w_orV, L2.w_notV, L2.w_if, L2.w_seq, L2.w_next, L2.w_brk, L2.w_cont, L2.w_drop, L2.w_ret, L2.w_retN, L2.w_ifS, L2.w_asg, L2.w_gName, L2.w_set0, L2.w_setS, L2.w_nil, L2.w_cons, L2.w_cb, L2.w_tup, L2.w_lst, L2.w_call, L2.w_bm, L2.w_bm0, L2.w_chain, L2.w_chain3, L2.w_for1, L2.w_for2, L2.w_forL, L2.w_forT, L2.w_gTup, L2.w_try, L2.w_try0, L2.w_compL, L2.w_compT, L2.w_comp1, L2.w_comp2, L2.w_compZ, L2.w_forET, L2.w_forZT, L2.w_forS, L2.w_noif, L2.w_init0, L2.w_initS, L2.w_initN, L2.w_get0, L2.w_getS, L2.w_gSub, L2.w_dget, L2.w_dput, L2.w_dnewK, L2.w_raise, L2.w_sl, L2.w_part, L2.w_nopart]); (try simp (maxSteps := 3000000) only [L2.w_var0, L2.w_varS, L2.w_c, L2.w_op, L2.w_un, L2.w_I0, L2.w_I, L2.w_U, L2.w_eqI, L2.w_neI, L2.w_eqS, L2.w_neS, L2.w_eqB, L2.w_neB, L2.w_exB, L2.w_exI, L2.w_exB2, L2.w_addS, L2.w_aug, L2.w_ip, if_true, if_false, Bool.false_eq_true, L2.w_K, L2.w_exR, L2.w_exR2, L2.w_ex1I, L2.w_ex1S, L2.w_ex1R, L2.w_ex2R, L2.w_ex2I, L2.w_int1, L2.w_ixS, L2.w_ixL, L2.w_ixT, L2.w_app, L2.w_pop, L2.w_test, L2.w_tB, L2.w_and, L2.w_or, L2.w_not, L2.w_andV, L2.w_orV, L2.w_notV, L2.w_if, L2.w_seq, L2.w_next, L2.w_brk, L2.w_cont, L2.w_drop, L2.w_ret, L2.w_retN, L2.w_ifS, L2.w_asg, L2.w_gName, L2.w_set0, L2.w_setS, L2.w_nil, L2.w_cons, L2.w_cb, L2.w_tup, L2.w_lst, L2.w_call, L2.w_bm, L2.w_bm0, L2.w_chain, L2.w_chain3, L2.w_for1, L2.w_for2, L2.w_forL, L2.w_forT, L2.w_gTup, L2.w_gNil, L2.w_gCons, List.append_nil, decide_eq_true_eq, Bool.not_eq_true', decide_eq_false_iff_not, L2.w_try, L2.w_try0, L2.w_initB, L2.w_setE, L2.w_fsR, L2.w_raiseV, L2.w_excA, L2.w_compL, L2.w_compT, L2.w_comp1, L2.w_comp2, L2.w_compZ, L2.w_forET, L2.w_forZT, L2.w_forZ, L2.w_indexS, L2.w_forS, L2.w_noif, L2.w_exS, L2.w_init0, L2.w_initS, L2.w_initN, L2.w_get0, L2.w_getS, L2.w_globR, L2.w_gSub, L2.w_dget, L2.w_dput, L2.w_dnewK, L2.w_disp, L2.w_pr0, L2.w_prS, L2.w_raise, L2.w_sl, L2.w_part, L2.w_nopart, L2.w_slS, L2.w_rev, L2.w_sortK, L2.w_compD, L2.w_dnewT, L2.w_maxD, L2.w_tryG, L2.w_hNil, L2.w_hCons, L2.w_hAs, L2.w_bExpr, L2.w_bAsg, L2.w_bTup, L2.w_bLst, L2.w_listD, L2.w_dget2]))
section
variable {P:Program} {w:World} {K:PySem.W.Frag} {mg:Str->Option Value} {base:Heap}
theorem ok_crossing (E:Fn K mg "crossing" s_crossing ["bows"]):Def P w K mg base 1 "crossing" s_crossing ["bows"] spCrossing:=E.mk' fun f fd F=>by
 refine F.okS sc_crossing (fun vs H Q E h=>?_) (fun cdv A outer s H vs Q E hr h=>?_)
 ·obtain⟨l,ps,rfl,_⟩:=h
  rfl
 ·obtain⟨l,ps,rfl,bo,qn,qs⟩:=h
  obtain⟨as,b1,bl,bg⟩:=bo.get
  refine⟨[some (.ref l),none,none,none,none],_,rfl,(L2.QSs.h (qpss_cons (qps_for PassesOwn.never rfl (qpi_list (qpv 0)) (qpg_tup (n:=2) rfl (qpgs_cons (qpg_name (i:=1) sc_crossing.nd rfl (Or.inl rfl)) (qpgs_cons (qpg_name (i:=2) sc_crossing.nd rfl (Or.inl rfl)) qpgs_nil)))
   (qpss_one (qps_for PassesOwn.never rfl (qpi_list (qpv 0)) (qpg_tup (n:=2) rfl (qpgs_cons (qpg_name (i:=3) sc_crossing.nd rfl (Or.inl rfl)) (qpgs_cons (qpg_name (i:=4) sc_crossing.nd rfl (Or.inl rfl)) qpgs_nil)))
    (qpss_one (qps_if (qpt_chain3 op_lt op_lt op_lt (qpv 1) (qpv 3) (qpv 2) (qpv 4))
     (qpss_one (qps_ret (qpe_tup (qpa_Tuple (qpe_tup (qpa_Name (qpv 1) (qpa_Name (qpv 2) qpa_nil))) (qpa_Tuple (qpe_tup (qpa_Name (qpv 3) (qpa_Name (qpv 4) qpa_nil))) qpa_nil)))))
     qpss_nil)))))
   (qpss_one (qps_ret qpe_non)))),?_⟩
  walk_at "wp"
  refine⟨⟨_,SqL.of b1⟩,for_list (xs:=as.map V.ref) (fun i σ H2=>∃ x1 x2 x3 x4:Option V,σ=[some (.ref l),x1,x2,x3,x4]/\H2=H/\∀ p∈ps.take i,∀ q∈ps,crossZ p q=false) ⟨none,none,none,none,rfl,rfl,fun p hp=>by simp at hp⟩ (fun i σ H2 _ ⟨_,_,_,_,_,e,_⟩=>by rw [e];exact SqL.of b1) ?_ ?_⟩
  ·rintro i x σ H2 hx ⟨x1,x2,x3,x4,rfl,rfl,hn⟩
   obtain⟨a,p,rfl,hp,ta⟩:=bg i x hx
   walk_at "wp"
   refine⟨_,SqT.of ta,rfl,?_⟩
   walk_at "wp"
   refine⟨⟨_,SqL.of b1⟩,for_list (xs:=as.map V.ref) (fun j σ H3=>∃ x3 x4:Option V,σ=[some (.ref l),some (.int p.1),some (.int p.2),x3,x4]/\H3=H2/\∀ q∈ps.take j,crossZ p q=false) ⟨x3,x4,rfl,rfl,fun p hp=>by simp at hp⟩ (fun i σ H2 _ ⟨_,_,_,e,_⟩=>by rw [e];exact SqL.of b1) ?_ ?_⟩
   ·rintro j y σ H3 hy ⟨y3,y4,rfl,rfl,hm⟩
    obtain⟨c,q,rfl,hq,tc⟩:=bg j y hy
    walk_at "wp"
    refine⟨_,SqT.of tc,rfl,?_⟩
    walk_at "wp"
    have nx:crossZ p q=false->∃ x3 x4:Option V,[some (V.ref l),some (V.int p.1),some (V.int p.2),some (V.int q.1),some (V.int q.2)]=[some (V.ref l),some (V.int p.1),some (V.int p.2),x3,x4]/\True/\∀ q∈ps.take (j+1),crossZ p q=false:=fun e=>by
     refine⟨_,_,rfl,trivial,fun q' hq'=>?_⟩
     rw [List.take_add_one,hq] at hq'
     rcases List.mem_append.mp hq' with z | z
     ·exact hm q' z
     ·have e':q'=q:=by simpa using z
      rw [e'];exact e
    refine ite2 (fun h1=>ite2 (fun h2=>ite2 (fun h3=>?_) (fun h3=>nx (by simp [crossZ,h3]))) (fun h2=>nx (by simp [crossZ,h2]))) (fun h1=>nx (by simp [crossZ,h1]))
    refine⟨(by show 2<=sizeLine;decide),fun t1 n1=>⟨(by show 2<=sizeLine;decide),fun t2 n2=>⟨(by show 2<=sizeLine;decide),fun t3 n3=>?_⟩⟩⟩
    have s1:Same H3 (upd H3 t1 (.tup [.int p.1,.int p.2])):=(Same.refl _).new n1
    have s2:=s1.new (o:=.tup [.int q.1,.int q.2]) (s1.free n2)
    have s3:=s2.new (o:=.tup [.ref t1,.ref t2]) (s2.free n3)
    have e12:t1≠t2:=fun e=>by subst e;rw [upd_same] at n2;cases n2
    have e23:t2≠t3:=fun e=>by subst e;rw [upd_same] at n3;cases n3
    have e13:t1≠t3:=fun e=>by subst e;rw [upd_ne e12,upd_same] at n3;cases n3
    refine qs p (List.mem_of_getElem? hp) q (List.mem_of_getElem? hq) (by simp [crossZ,h1,h2,h3]) t3 t1 t2 _ (s2.free n3) s3 upd_same ?_ ?_
    ·show upd _ _ _ t1=_
     rw [upd_ne e13,upd_ne e12,upd_same]
    ·show upd _ _ _ t2=_
     rw [upd_ne e23,upd_same]
   ·rintro σ H3 ⟨y3,y4,rfl,rfl,hm⟩
    refine⟨_,_,y3,y4,rfl,rfl,fun p' hp'=>?_⟩
    rw [List.take_add_one,hp] at hp'
    rcases List.mem_append.mp hp' with z | z
    ·exact hn p' z
    ·have e:p'=p:=by simpa using z
     subst e
     intro q hq
     refine hm q ?_
     rw [List.length_map,bl,List.take_length];exact hq
  ·rintro σ H2 ⟨x1,x2,x3,x4,rfl,rfl,hn⟩
   walk_at "wp"
   refine qn fun p hp=>hn p ?_
   rw [List.length_map,bl,List.take_length];exact hp
theorem ok_is_whole (B:Blt mg) (E:Fn K mg "is_whole" s_is_whole ["thing"]):Def P w K mg base 1 "is_whole" s_is_whole ["thing"] (spWhole K):=E.mk' fun f fd F=>by
 refine F.okS sc_is_whole (fun vs H Q E h=>?_) (fun cdv A outer s H vs Q E hr h=>?_)
 ·obtain⟨x,t,b,c,rfl,_⟩:=h
  rfl
 ·obtain⟨x,t,b,c,rfl,ty,e1,e2,q⟩:=h
  refine⟨[some x],_,rfl,(L2.QSs.h (qpss_one (qps_ret (qpe_and (qpe_callB call_isi (by rfl) B.isinstance PyProof.Rows.boot_isinstance (qpa_Name (qpv 0) (qpa_Name (qpe_bltn (v:=.ty "int") (by rfl) B.int PyProof.Rows.boot_int rfl) qpa_nil))) (qpe_one (qpe_not (qpe_callB call_isi (by rfl) B.isinstance PyProof.Rows.boot_isinstance (qpa_Name (qpv 0) (qpa_Name (qpe_bltn (v:=.ty "bool") (by rfl) B.bool PyProof.Rows.boot_bool rfl) qpa_nil))))))))),?_⟩
  walk_at "wp"
  refine⟨_,_,_,b,rfl,ty,e1,?_⟩
  walk_at "wp"
  cases b with
  | false=>exact iteF q
  | true=>exact iteT ⟨_,_,_,c,rfl,ty,e2,_,rfl,q⟩
theorem ok_is_side (G_SIDES:∃ a,mg "SIDES"=some (.ref a)/\∀ H,SqT K H a (([("l":Str),"r"]:List Str).map V.str)) (E:Fn K mg "is_side" s_is_side ["thing"]):Def P w K mg base 1 "is_side" s_is_side ["thing"] spIsSide:=E.mk' fun f fd F=>by
 refine F.okS sc_is_side (fun vs H Q E h=>?_) (fun cdv A outer s H vs Q E hr h=>?_)
 ·obtain⟨x,d,rfl,_⟩:=h
  rfl
 ·obtain⟨x,d,rfl,hd,pl,q⟩:=h
  refine⟨[some x],_,rfl,(L2.QSs.h (qpss_one (qps_ret (qpe_cmpR (op_inD (hu_64 hr)) (qpv 0) (qpe_globR (by rfl) G_SIDES) (by with_unfolding_all rfl))))),?_⟩
  walk_at "wp"
  intro a ha
  refine⟨d,[.str (Str.ofString "l"),.str (Str.ofString "r")],a,_,hd.rep,rfl,.inr (ha H),.cons (.str _) (.cons (.str _) .nil),pl.lay,by decide +kernel,pl.deep,?_⟩
  rw [side_any]
  exact q
theorem ok_is_order (B:Blt mg) (E:Fn K mg "is_order" s_is_order ["thing"]) (D_is_whole:Def P w K mg base 1 "is_whole" s_is_whole ["thing"] (spWhole K)):Def P w K mg base 2 "is_order" s_is_order ["thing"] spIsOrder:=E.mk' fun f fd F=>by
 refine F.okS sc_is_order (fun vs H Q E h=>?_) (fun cdv A outer s H vs Q E hr h=>?_)
 ·obtain⟨x,d,rfl,_⟩:=h
  rfl
 ·obtain⟨x,d,rfl,hd,q⟩:=h
  refine⟨[some x],_,rfl,(L2.QSs.h (qpss_cons (qps_if (QW.pt (qpw_or (qpt_not (qpt_val (qpe_callB call_isi (by rfl) B.isinstance PyProof.Rows.boot_isinstance (qpa_Name (qpv 0) (qpa_Name (qpe_bltn (v:=.ty "tuple") (by rfl) B.tuple PyProof.Rows.boot_tuple rfl) qpa_nil))))) (qpw_or1 (qpt_cmpR op_gt (qpe_callB call_len_seq (by rfl) B.len PySem.boot_len (qpa_Name (qpv 0) qpa_nil)) (qpe_globI (by rfl) B.MOST_RINGS) (nomark _)))))
   (qpss_one (qps_ret qpe_bl))
   qpss_nil)
   (qpss_cons (qps_if (qpt_not (qpt_val (qpe_callB (call_all_bl rfl) (by rfl) B.all PyProof.Rows.boot_all (qpa_ListComp (qpe_comp (own:=["ring"]) (ns:=[]) (caps:=[]) rfl ⟨rfl,by decide +kernel,by decide +kernel,by decide +kernel⟩ .nil (qpi_tup (qpv 0)) (fun C s H fp pn=>(qpg_name (i:=0) (show List.Nodup ((["ring"]:List Str)++([]:List Str)) by decide +kernel) rfl (Or.inl rfl))) (fun C s H fp pn=>qpf_nil) (fun C s H fp pn=>(qpe_callD D_is_whole (hr.mono (by decide)) (by rfl) (qpa_Name (qpv 0) qpa_nil)))) qpa_nil))))
   (qpss_one (qps_ret qpe_bl))
   qpss_nil)
   (qpss_one (qps_ret (qpe_cmpR (op_eqD (hu_64 hr)) (qpe_callB call_sorted_intsQ (by rfl) B.sorted PyProof.Rows.boot_sorted (qpa_Name (qpv 0) qpa_nil)) (qpe_callTy (call_list_rng rfl) (by rfl) B.list PyProof.Rows.boot_list (qpa_cons (qpe_callTy call_rng2 (by rfl) B.range PyProof.Rows.boot_range (qpa_Constant qpe_int (qpa_BinOp (qpe_op op_add (qpe_callB call_len_seq (by rfl) B.len PySem.boot_len (qpa_Name (qpv 0) qpa_nil)) qpe_int) qpa_nil))) qpa_nil)) (nomark _))))))),?_⟩
  cases id hd with
  | tup h1 h2=>
   rename_i a xs ds
   walk_at "wp"
   refine isi_tuple hd ?_
   walk_at "wp"
   refine ifN (by simp [isT]) ⟨_,.inr (SqT.of h1),?_⟩
   have hl:=h2.len
   refine ite2 (fun hn=>?_) (fun hn=>?_)
   ·have e:orderD (.tuple ds)=false:=by
     show (decide (ds.length<=20)&&_)=false
     rw [decide_eq_false (by omega)];rfl
    rw [e] at q
    exact q H (Same.refl _)
   ·have hn':xs.length<=20:=by omega
    have hz:xs.length<=sizeLine:=Nat.le_of_lt (small1000 (by omega))
    have hds:ds.length=xs.length:=hl.symm
    have e0:orderD (.tuple ds)=(ds.all wholeD&&(ds.map intOf).isPerm (rngZ 1 ds.length)):=by
     show (decide (ds.length<=20)&&_)=_
     rw [decide_eq_true (by omega)];rfl
    rw [e0] at q
    refine⟨⟨_,SqT.of h1⟩,comp_mapT (SqT.of h1) hz ((ds.map wholeD).map V.bl) (by simp [hds]) (fun i x y Q' hx hy hq=>?_) fun p1 n1=>?_⟩
    ·obtain⟨d,hd1,hd2⟩:=h2.get hx
     walk_at "wp"
     refine whole_of hd2 ?_
     have ey:y=V.bl (wholeD d):=by simp [hd1] at hy;exact hy.symm
     rw [ey] at hq
     exact hq
    ·have s1:Same H (upd H p1 (.lst ((ds.map wholeD).map V.bl))):=(Same.refl _).new n1
     refine⟨p1,_,rfl,SqL.of upd_same,_,rfl,?_⟩
     have ea:(ds.map wholeD).all id=ds.all wholeD:=by rw [List.all_map];rfl
     cases hb:ds.all wholeD with
     | false=>
      rw [hb] at q
      exact ifY (show (ds.map wholeD).all id=false by rw [ea,hb]) (q _ s1)
     | true=>
      rw [hb,Bool.true_and] at q
      rw [List.all_eq_true] at hb
      have hq1:=s1 _ _ h1
      have ex:xs=(ds.map intOf).map V.int:=by
       apply List.ext_getElem?
       intro i
       cases e:xs[i]? with
       | none=>
        have:xs.length<=i:=by rw [<-List.getElem?_eq_none_iff];exact e
        rw [List.getElem?_eq_none (by simp;omega)]
       | some x=>
        obtain⟨d,hd1,hd2⟩:=h2.get e
        have hw:=wholeD_int (hb d (List.mem_of_getElem? hd1))
        rw [hw] at hd2
        cases hd2
        simp [hd1]
      refine ifN (show ¬ (ds.map wholeD).all id=false by rw [ea,List.all_eq_true.mpr hb];decide) ⟨a,ds.map intOf,rfl,.inr (by rw [<-ex];exact SqT.of hq1),by rw [List.length_map];omega,fun l5 ms n5 hp hs=>?_⟩
      have s5:=s1.new (o:=.lst (ms.map V.int)) (s1.free n5)
      walk_at "wp"
      refine⟨_,.inr (SqT.of (s5 _ _ h1)),fun p6 n6=>⟨1,_,upd_same,⟨by decide,by decide,by omega,by omega,by omega⟩,fun l7 n7=>?_⟩⟩
      have s6:=s5.new (o:=.rng 1 ((xs.length:Int)+1)) (s5.free n6)
      have n56:l5≠p6:=fun e=>by subst e;rw [upd_same] at n6;cases n6
      have n57:l5≠l7:=fun e=>by subst e;rw [upd_ne n56,upd_same] at n7;cases n7
      have eN:((xs.length:Int)+1 - 1).toNat=(ds.map intOf).length:=by rw [List.length_map];omega
      refine eqL_ints (SqL.of (by rw [upd_ne n57,upd_ne n56,upd_same])) (SqL.of upd_same) ?_
      rw [eN,sorted_order hp hs]
      rw [List.length_map]
      exact q _ (s6.new (s6.free n7))
  | _=>
   walk_at "wp"
   refine isi_tuple hd ?_
   walk_at "wp"
   exact ifY (by rfl) (q H (Same.refl _))
theorem ok_is_maze (B:Blt mg) (E:Fn K mg "is_maze" s_is_maze ["thing"]) (D_is_side:Def P w K mg base 1 "is_side" s_is_side ["thing"] spIsSide) (D_is_order:Def P w K mg base 2 "is_order" s_is_order ["thing"] spIsOrder):Def P w K mg base 3 "is_maze" s_is_maze ["thing"] spIsMaze:=E.mk' fun f fd F=>by
 refine F.okS sc_is_maze (fun vs H Q E h=>?_) (fun cdv A outer s H vs Q E hr h=>?_)
 ·obtain⟨x,d,rfl,_⟩:=h
  rfl
 ·obtain⟨x,d,rfl,hd,pl,q⟩:=h
  refine⟨[some x],_,rfl,(L2.QSs.h (qpss_cons (qps_if (QW.pt (qpw_or (qpt_not (qpt_val (qpe_callB call_isi (by rfl) B.isinstance PyProof.Rows.boot_isinstance (qpa_Name (qpv 0) (qpa_Name (qpe_bltn (v:=.ty "tuple") (by rfl) B.tuple PyProof.Rows.boot_tuple rfl) qpa_nil))))) (qpw_or1 (qpt_cmpR op_ne (qpe_callB call_len_seq (by rfl) B.len PySem.boot_len (qpa_Name (qpv 0) qpa_nil)) qpe_int (nomark _)))))
   (qpss_one (qps_ret qpe_bl))
   qpss_nil)
   (qpss_one (qps_ret (qpe_and (qpe_callD D_is_side (hr.mono (by decide)) (by rfl) (qpa_Subscript (qpe_ix ix_tup (qpv 0) qpe_int (fun _ _=>rfl)) qpa_nil)) (qpe_one (qpe_callD D_is_order (hr.mono (by decide)) (by rfl) (qpa_Subscript (qpe_ix ix_tup (qpv 0) qpe_int (fun _ _=>rfl)) qpa_nil)))))))),?_⟩
  cases id hd with
  | tup h1 h2=>
   rename_i a xs ds
   walk_at "wp"
   refine isi_tuple hd ?_
   walk_at "wp"
   refine ifN (by simp [isT]) ⟨_,.inr (SqT.of h1),?_⟩
   have hl:=h2.len
   refine ite2 (fun hn=>?_) (fun hn=>?_)
   ·have e:mazeD (.tuple ds)=false:=by
     match ds,hl with
     | [],_=>rfl
     | [u],_=>rfl
     | [u,v],hl=>exact absurd (by rw [hl];rfl) hn
     | u::v::w::r,_=>rfl
    rw [e] at q
    exact q H (Same.refl _)
   ·have hn':xs.length=2:=by
     have:(xs.length:Int)=2:=Classical.not_not.mp hn
     omega
    obtain⟨d,e,rfl⟩:∃ d e,ds=[d,e]:=match ds,hl.symm.trans hn' with
     | [u,v],_=>⟨u,v,rfl⟩
    obtain⟨x,y,rfl,hx,hy⟩:=dat_two h2
    have hlay:d.canLay0=true:=by
     have:(PyData.canLay0 d&&(PyData.canLay0 e&&true))=true:=pl.lay
     rw [Bool.and_eq_true] at this
     exact this.1
    have hdp:d.depth<=60:=by
     have:max d.depth (max e.depth 0)+1<=60:=pl.deep
     omega
    refine⟨_,x,SqT.of h1,rfl,x,d,rfl,hx,⟨hlay,hdp⟩,?_⟩
    walk_at "wp"
    cases es:sideD d with
    | false=>
     refine iteF ?_
     have e:mazeD (.tuple [d,e])=false:=by show (sideD d&&_)=false;rw [es];rfl
     rw [e] at q
     exact q H (Same.refl _)
    | true=>
     have e:mazeD (.tuple [d,e])=orderD e:=by show (sideD d&&_)=_;rw [es];rfl
     rw [e] at q
     exact iteT ⟨_,y,SqT.of h1,rfl,y,_,rfl,hy,q⟩
  | _=>
   walk_at "wp"
   refine isi_tuple hd ?_
   walk_at "wp"
   exact ifY (by rfl) (q H (Same.refl _))
theorem ok_other_side (E:Fn K mg "other_side" s_other_side ["side"]):Def P w K mg base 1 "other_side" s_other_side ["side"] spOther:=E.mk' fun f fd F=>by
 refine F.okS sc_other_side (fun vs H Q E h=>?_) (fun cdv A outer s H vs Q E hr h=>?_)
 ·obtain⟨b,rfl,_⟩:=h
  rfl
 ·obtain⟨b,rfl,q⟩:=h
  refine⟨[some (.str (sd b))],_,rfl,(L2.QSs.h (qpss_one (qps_ret (qpe_ifExp (qpt_cmpR op_eq (qpv 0) qpe_str (nomark _)) qpe_str qpe_str)))),?_⟩
  walk_at "wp"
  simp only [sd_l]
  refine ite2 (fun h=>?_) (fun h=>?_)
  ·subst h;exact q
  ·have e:b=true:=by cases b;exact absurd rfl h;rfl
   subst e;exact q
theorem ok_side_of_step (E:Fn K mg "side_of_step" s_side_of_step ["maze","step"]) (D_other_side:Def P w K mg base 1 "other_side" s_other_side ["side"] spOther):Def P w K mg base 2 "side_of_step" s_side_of_step ["maze","step"] spSideOf:=E.mk' fun f fd F=>by
 refine F.okS sc_side_of_step (fun vs H Q E h=>?_) (fun cdv A outer s H vs Q E hr h=>?_)
 ·obtain⟨m,o,b,ns,k,rfl,_⟩:=h
  rfl
 ·obtain⟨m,o,b,ns,k,rfl,hm,q⟩:=h
  refine⟨[some (.ref m),some (.int k),none],_,rfl,(L2.QSs.h (qpss_cons (qps_set (i:=2) sc_side_of_step.nd rfl (Or.inl rfl) (qpe_ix ix_tup (qpv 0) qpe_int (fun _ _=>rfl)))
   (qpss_one (qps_ret (qpe_ifExp (qpt_cmpR op_eq (qpe_op op_mod (qpv 1) qpe_int) qpe_int (nomark _)) (qpv 2) (qpe_callD D_other_side (hr.mono (by decide)) (by rfl) (qpa_Name (qpv 2) qpa_nil))))))),?_⟩
  walk_at "wp"
  refine⟨_,_,SqT.of hm.1,rfl,?_⟩
  refine⟨by decide,ite2 (fun h=>?_) (fun h=>?_)⟩
  ·have e:odd k=false:=by simp [odd];omega
   rw [e,Bool.xor_false] at q
   exact q
  ·have e:odd k=true:=by simp [odd];omega
   rw [e,Bool.xor_true] at q
   exact⟨b,rfl,q⟩
theorem ok_rows_of_way (B:Blt mg) (E:Fn K mg "rows_of_way" s_rows_of_way ["maze"]):Def P w K mg base 1 "rows_of_way" s_rows_of_way ["maze"] spRows:=E.mk' fun f fd F=>by
 refine F.okS sc_rows_of_way (fun vs H Q E h=>?_) (fun cdv A outer s H vs Q E hr h=>?_)
 ·obtain⟨m,o,b,ns,rfl,_⟩:=h
  rfl
 ·obtain⟨m,o,b,ns,rfl,hm,hl,q⟩:=h
  refine⟨[some (.ref m),none],_,rfl,(L2.QSs.h (qpss_cons (qps_set (i:=1) sc_rows_of_way.nd rfl (Or.inl rfl) (qpe_ix ix_tup (qpv 0) qpe_int (fun _ _=>rfl)))
   (qpss_one (qps_ret (qpe_op op_cat (qpe_op op_cat (qpe_lst (qpa_Constant qpe_int qpa_nil)) (qpe_callTy call_list_of (by rfl) B.list PyProof.Rows.boot_list (qpa_Name (qpv 1) qpa_nil))) (qpe_lst (qpa_BinOp (qpe_op op_add (qpe_callB call_len_seq (by rfl) B.len PySem.boot_len (qpa_Name (qpv 1) qpa_nil)) qpe_int) qpa_nil))))))),?_⟩
  walk_at "wp"
  refine⟨_,_,SqT.of hm.1,rfl,(by show 1<=sizeLine;decide),fun p1 n1=>?_⟩
  have s1:=(Same.refl H).new (o:=.lst [.int 0]) n1
  refine⟨o,_,rfl,.inr (SqT.of (s1 _ _ hm.2)),fun p2 n2=>?_⟩
  have s2:=s1.new (o:=.lst (ns.map V.int)) (s1.free n2)
  have e12:p1≠p2:=fun e=>by subst e;rw [upd_same] at n2;cases n2
  refine⟨p1,p2,_,_,rfl,rfl,by rw [upd_ne e12,upd_same],upd_same,Nat.le_of_lt (small1000 (by simp;omega)),fun p3 n3=>?_⟩
  have s3:=s2.new (o:=.lst ([.int 0]++ns.map V.int)) (s2.free n3)
  refine⟨o,_,rfl,.inr (SqT.of (s3 _ _ hm.2)),(by show 1<=sizeLine;decide),fun p4 n4=>?_⟩
  have s4:=s3.new (o:=.lst [.int (((ns.map V.int).length:Int)+1)]) (s3.free n4)
  have e34:p3≠p4:=fun e=>by subst e;rw [upd_same] at n4;cases n4
  refine⟨p3,p4,_,_,rfl,rfl,by rw [upd_ne e34,upd_same],upd_same,Nat.le_of_lt (small1000 (by simp;omega)),fun p5 n5=>?_⟩
  have s5:=s4.new (o:=.lst ([.int 0]++ns.map V.int++[.int (((ns.map V.int).length:Int)+1)])) (s4.free n5)
  refine q p5 _ (s4.free n5) s5 ?_
  rw [upd_same]
  simp [rowsZ]
theorem ok_bows_of (B:Blt mg) (E:Fn K mg "bows_of" s_bows_of ["maze"]) (D_side_of_step:Def P w K mg base 2 "side_of_step" s_side_of_step ["maze","step"] spSideOf) (D_rows_of_way:Def P w K mg base 1 "rows_of_way" s_rows_of_way ["maze"] spRows):Def P w K mg base 3 "bows_of" s_bows_of ["maze"] spBowsOf:=E.mk' fun f fd F=>by
 refine F.okS sc_bows_of (fun vs H Q E h=>?_) (fun cdv A outer s H vs Q E hr h=>?_)
 ·obtain⟨m,o,b,ns,rfl,_⟩:=h
  rfl
 ·obtain⟨m,o,b,ns,rfl,hm,O,q⟩:=h
  have hlen:=O.len
  refine⟨[some (.ref m),none,none,none,none],_,rfl,(L2.QSs.h (qpss_cons (qps_set (i:=1) sc_bows_of.nd rfl (Or.inl rfl) (qpe_callD D_rows_of_way (hr.mono (by decide)) (by rfl) (qpa_Name (qpv 0) qpa_nil)))
   (qpss_cons (qps_set (i:=2) sc_bows_of.nd rfl (Or.inl rfl) (qpe_disp (qpps_cons qpe_str (qpe_lst qpa_nil) (qpps_cons qpe_str (qpe_lst qpa_nil) qpps_nil)) rfl rfl (fun z=>nomatch z) (by decide)))
   (qpss_cons (qps_for PassesOwn.never rfl (qpi_range1 (by rfl) B.range (qpa_BinOp (qpe_op op_sub (qpe_callB call_len_seq (by rfl) B.len PySem.boot_len (qpa_Name (qpv 1) qpa_nil)) qpe_int) qpa_nil)) (qpg_name (i:=3) sc_bows_of.nd rfl (Or.inl rfl))
   (qpss_cons (qps_set (i:=4) sc_bows_of.nd rfl (Or.inl rfl) (qpe_callTy call_tuple_of (by rfl) B.tuple PyProof.Rows.boot_tuple (qpa_Call (qpe_callB call_sorted_ints (by rfl) B.sorted PyProof.Rows.boot_sorted (qpa_Subscript (qpe_slice sl_list (qpv 1) (qpo_some (qpv 3)) (qpo_some (qpe_op op_add (qpv 3) qpe_int))) qpa_nil)) qpa_nil)))
    (qpss_one (qps_expr (qpe_bm PySem.F.plainAttrs_list PySem.F.slot_list_append PySem.F.type_list_append mt_append (qpe_dget (hu_1 hr) (qpv 2) (qpe_callD D_side_of_step (hr.mono (by decide)) (by rfl) (qpa_Name (qpv 0) (qpa_Name (qpv 3) qpa_nil))) (fun _ _=>rfl)) (qpa_Name (qpv 4) qpa_nil))))))
   (qpss_one (qps_ret (qpe_tup (qpa_Call (qpe_callB call_sorted_bows (by rfl) B.sorted PyProof.Rows.boot_sorted (qpa_Subscript (qpe_dget (hu_1 hr) (qpv 2) qpe_str (fun _ _=>rfl)) qpa_nil)) (qpa_Call (qpe_callB call_sorted_bows (by rfl) B.sorted PyProof.Rows.boot_sorted (qpa_Subscript (qpe_dget (hu_1 hr) (qpv 2) qpe_str (fun _ _=>rfl)) qpa_nil)) qpa_nil))))))))),?_⟩
  walk_at "wp"
  refine⟨m,o,b,ns,rfl,hm,by omega,fun rl H1 nrl s1 hrl=>?_⟩
  walk_at "wp"
  intro d nd
  have sd1:=s1.new (o:=.dK []) (s1.free nd)
  refine⟨Nat.zero_le _,fun l1 nl1=>?_⟩
  have edl:d≠l1:=fun e=>by subst e;rw [upd_same] at nl1;cases nl1
  have sl1:=sd1.new (o:=.lst []) (sd1.free nl1)
  refine⟨Nat.zero_le _,fun r1 nr1=>?_⟩
  have edr:d≠r1:=fun e=>by subst e;rw [upd_ne edl,upd_same] at nr1;cases nr1
  have elr:l1≠r1:=fun e=>by subst e;rw [upd_same] at nr1;cases nr1
  have sr1:=sl1.new (o:=.lst []) (sl1.free nr1)
  refine⟨by rw [upd_ne edr,upd_ne edl,upd_same],[(.inr (Str.ofString "l"),.ref l1),(.inr (Str.ofString "r"),.ref r1)],rfl,(by show 2<=15;decide),?_⟩
  have fd0:H d=none:=s1.free nd
  have fl0:H l1=none:=sd1.free nl1
  have fr0:H r1=none:=sl1.free nr1
  have erl:rl≠d:=ne_of_none hrl nd
  have erl1:rl≠l1:=ne_of_none (((Same.refl H1).new (o:=.dK []) nd) _ _ hrl) nl1
  have erl2:rl≠r1:=ne_of_none ((((Same.refl H1).new (o:=.dK []) nd).new (o:=.lst []) (((Same.refl H1).new (o:=.dK []) nd).free nl1)) _ _ hrl) nr1
  generalize hkv:mergeK [] [((.inr (Str.ofString "l"):Key),V.ref l1),(.inr (Str.ofString "r"),.ref r1)]=kvs
  have kl:valV kvs (.inr (Str.ofString "l"))=some (.ref l1):=by subst hkv;rfl
  have kr:valV kvs (.inr (Str.ofString "r"))=some (.ref r1):=by subst hkv;rfl
  have ks:∀ s:Bool,valV kvs (.inr (sd s))=some (.ref (if s then r1 else l1)):=fun s=>by cases s;exact kl;exact kr
  refine⟨_,.inl (SqL.of (by rw [upd_ne erl,upd_ne erl2,upd_ne erl1,upd_ne erl];exact hrl)),by rw [List.length_map,rowsZ_len];omega,by rw [List.length_map,rowsZ_len];omega,?_⟩
  have eN:(((rowsZ ns).map V.int).length - 1:Int).toNat=ns.length+1:=by rw [List.length_map,rowsZ_len];omega
  rw [eN]
  refine for_range (n:=ns.length+1) (fun i σ H2=>∃ (x3 x4:Option V),σ=[some (.ref m),some (.ref rl),some (.ref d),x3,x4]/\Same H H2/\H2 rl=some (.lst ((rowsZ ns).map V.int))/\H2 d=some (.dK kvs)/\BowsAt H2 l1 (sideBows b ns false i)/\BowsAt H2 r1 (sideBows b ns true i))
   ⟨none,none,rfl,sr1.new fd0,by rw [upd_ne erl,upd_ne erl2,upd_ne erl1,upd_ne erl];exact hrl,upd_same,⟨[],by rw [upd_ne edl.symm,upd_ne elr,upd_same];rfl,.nil⟩,⟨[],by rw [upd_ne edr.symm,upd_same];rfl,.nil⟩⟩ ?_ ?_
  ·rintro i σ H2 hi ⟨x3,x4,rfl,sm,hrl2,hd2,bl,br⟩
   walk_at "wp"
   refine⟨rl,_,rfl,SqL.of hrl2,fun p1 n1=>?_⟩
   rw [cut_two (by omega)]
   have t1:=(Same.refl H2).new (o:=.lst ([rowZ ns i,rowZ ns (i+1)].map V.int)) n1
   refine⟨p1,_,rfl,SqL.of upd_same,(by show 2<64;decide),fun p2 ms n2 hp hs=>?_⟩
   rw [two_sorted hp hs]
   have t2:=t1.new (o:=.lst ([min (rowZ ns i) (rowZ ns (i+1)),max (rowZ ns i) (rowZ ns (i+1))].map V.int)) (t1.free n2)
   refine⟨p2,_,rfl,.inl ⟨SqL.of upd_same,fun t n3=>?_⟩⟩
   have t3:=t2.new (o:=.tup ([min (rowZ ns i) (rowZ ns (i+1)),max (rowZ ns i) (rowZ ns (i+1))].map V.int)) (t2.free n3)
   have sm3:=sm.trans t3
   refine⟨m,o,b,ns,i,by simp,hm.same sm3,?_⟩
   have bl3:=bl.same t3
   have br3:=br.same t3
   refine⟨_,.inl ⟨kvs,.inr (sd (b ^^ odd i)),.inl (t3 _ _ hd2),rfl,(ks _).symm⟩,?_⟩
   have tt:tupAt (upd (upd (upd H2 p1 (.lst ([rowZ ns i,rowZ ns (i+1)].map V.int))) p2 (.lst ([min (rowZ ns i) (rowZ ns (i+1)),max (rowZ ns i) (rowZ ns (i+1))].map V.int))) t (.tup ([min (rowZ ns i) (rowZ ns (i+1)),max (rowZ ns i) (rowZ ns (i+1))].map V.int))) t (stepB ns i):=upd_same
   generalize upd (upd (upd H2 p1 (.lst ([rowZ ns i,rowZ ns (i+1)].map V.int))) p2 (.lst ([min (rowZ ns i) (rowZ ns (i+1)),max (rowZ ns i) (rowZ ns (i+1))].map V.int))) t (.tup ([min (rowZ ns i) (rowZ ns (i+1)),max (rowZ ns i) (rowZ ns (i+1))].map V.int))=H3 at *
   cases hs:(b ^^ odd i) with
   | false=>
    have h1:onSide b false i=true:=by simp [onSide,hs]
    have h2:onSide b true i=false:=by simp [onSide,hs]
    rw [sideBows_yes h1,sideBows_no h2]
    obtain⟨as,b1,b2⟩:=bl3
    have ha:as.length=(sideBows b ns false i).length:=Paired.length b2
    have:=sideBows_len b ns false i
    refine⟨w_tyL b1,l1,as.map V.ref,_,rfl,rfl,b1,by rw [List.length_map];exact small1000 (by omega),_,_,rfl,sm3.new fl0,by rw [upd_ne erl1];exact t3 _ _ hrl2,by rw [upd_ne edl];exact t3 _ _ hd2,bows_push b1 b2 tt,bows_upd br3 b1 elr.symm⟩
   | true=>
    have h1:onSide b true i=true:=by simp [onSide,hs]
    have h2:onSide b false i=false:=by simp [onSide,hs]
    rw [sideBows_yes h1,sideBows_no h2]
    obtain⟨as,b1,b2⟩:=br3
    have ha:as.length=(sideBows b ns true i).length:=Paired.length b2
    have:=sideBows_len b ns true i
    refine⟨w_tyL b1,r1,as.map V.ref,_,rfl,rfl,b1,by rw [List.length_map];exact small1000 (by omega),_,_,rfl,sm3.new fr0,by rw [upd_ne erl2];exact t3 _ _ hrl2,by rw [upd_ne edr];exact t3 _ _ hd2,bows_upd bl3 b1 elr,bows_push b1 b2 tt⟩
  ·rintro σ H2 ⟨x3,x4,rfl,sm,hrl2,hd2,bl,br⟩
   walk_at "wp"
   have bnd:∀ s,∀ p∈sideBows b ns s (ns.length+1),0<=p.2/\p.2<1000:=fun s p hp=>by
    obtain⟨i,hi,_,rfl⟩:=side_mem hp
    have:=O.step_in (i:=i) (by omega)
    have:=O.step_lt (i:=i) (by omega)
    omega
   obtain⟨as,b1,b2⟩:=bl
   have:=sideBows_len b ns false (ns.length+1)
   refine⟨_,.inl ⟨kvs,.inr (Str.ofString "l"),.inl hd2,rfl,kl.symm⟩,l1,as,_,rfl,SqL.of b1,b2,by omega,bnd false,fun l as' L nl hP hp hs=>?_⟩
   have t1:=(Same.refl H2).new (o:=.lst (as'.map V.ref)) nl
   obtain⟨bs,c1,c2⟩:=br.same t1
   have:=sideBows_len b ns true (ns.length+1)
   refine⟨_,.inl ⟨kvs,.inr (Str.ofString "r"),.inl (t1 _ _ hd2),rfl,kr.symm⟩,r1,bs,_,rfl,SqL.of c1,c2,by omega,bnd true,fun r bs' R nr hP2 hp2 hs2=>?_⟩
   have t2:=(Same.refl (upd H2 l (.lst (as'.map V.ref)))).new (o:=.lst (bs'.map V.ref)) nr
   refine⟨(by show 2<=sizeLine;decide),fun t nt=>?_⟩
   have t3:=(Same.refl (upd (upd H2 l (.lst (as'.map V.ref))) r (.lst (bs'.map V.ref)))).new (o:=.tup [.ref l,.ref r]) nt
   have elr2:l≠r:=fun e=>by subst e;rw [upd_same] at nr;cases nr
   refine q t l r L R _ (sm.free (t1.free (t2.free nt))) (sm.free nl) (sm.free (t1.free nr)) (((sm.trans t1).trans t2).trans t3) ⟨upd_same,?_,?_,⟨hp,hs⟩,⟨hp2,hs2⟩,elr2⟩
   ·exact ((bows_copy (l:=l) hP nl).same t2).same t3
   ·exact (bows_copy (l:=r) hP2 nr).same t3
theorem ok_crossed (B:Blt mg) (G_SIDES:∃ a,mg "SIDES"=some (.ref a)/\∀ H,SqT K H a (([("l":Str),"r"]:List Str).map V.str)) (E:Fn K mg "crossed" s_crossed ["maze"]) (D_bows_of:Def P w K mg base 3 "bows_of" s_bows_of ["maze"] spBowsOf) (D_crossing:Def P w K mg base 1 "crossing" s_crossing ["bows"] spCrossing):Def P w K mg base 4 "crossed" s_crossed ["maze"] spCrossed:=E.mk' fun f fd F=>by
 refine F.okS sc_crossed (fun vs H Q E h=>?_) (fun cdv A outer s H vs Q E hr h=>?_)
 ·obtain⟨m,o,b,ns,rfl,_⟩:=h
  rfl
 ·obtain⟨m,o,b,ns,rfl,hm,O,qn,qc⟩:=h
  refine⟨[some (.ref m),none,none,none],_,rfl,(L2.QSs.h (qpss_cons (qps_for PassesOwn.never rfl (qpi_zipT (by rfl) B.zip (qpa_Name (qpe_globR (by rfl) G_SIDES) (qpa_Call (qpe_callD D_bows_of (hr.mono (by decide)) (by rfl) (qpa_Name (qpv 0) qpa_nil)) qpa_nil))) (qpg_tup (n:=2) rfl (qpgs_cons (qpg_name (i:=1) sc_crossed.nd rfl (Or.inl rfl)) (qpgs_cons (qpg_name (i:=2) sc_crossed.nd rfl (Or.inl rfl)) qpgs_nil)))
   (qpss_cons (qps_set (i:=3) sc_crossed.nd rfl (Or.inl rfl) (qpe_callD D_crossing (hr.mono (by decide)) (by rfl) (qpa_Name (qpv 2) qpa_nil)))
    (qpss_one (qps_if (qpt_cmpR op_notN (qpv 3) qpe_non (nomark _))
    (qpss_one (qps_ret (qpe_tup (qpa_Name (qpv 1) (qpa_Subscript (qpe_ix ix_tup (qpv 3) qpe_int (fun _ _=>rfl)) (qpa_Subscript (qpe_ix ix_tup (qpv 3) qpe_int (fun _ _=>rfl)) qpa_nil))))))
    qpss_nil))))
   (qpss_one (qps_ret qpe_non)))),?_⟩
  walk_at "wp"
  intro a ha
  refine⟨m,o,b,ns,rfl,hm,O,fun t l r L R H1 nt nl nr s1 BO=>⟨a,t,rfl,⟨_,ha _⟩,⟨_,SqT.of BO.tup⟩,?_⟩⟩
  refine for_zipT (xs:=[V.str (sd false),.str (sd true)]) (ys:=[.ref l,.ref r]) (Nat.le_refl _) (fun i σ H'=>∃ x1 x2 x3:Option V,σ=[some (.ref m),x1,x2,x3]/\Same H1 H'/\∀ u:Bool,(if u then 2 else 1)<=i->∀ p∈sideBows b ns u (ns.length+1),∀ q∈sideBows b ns u (ns.length+1),crossZ p q=false)
   ⟨_,_,_,rfl,Same.refl _,fun u hu=>by cases u<;>simp at hu⟩ (fun i σ H' ⟨_,_,_,_,s2,_⟩=>⟨ha _,SqT.of (s2 _ _ BO.tup)⟩) ?_ ?_
  ·rintro i x y σ H2 p hx hy ⟨x1,x2,x3,rfl,s2,hn⟩ np
   obtain⟨u,lu,S,rfl,rfl,hBS,hS,hi⟩:∃ (u:Bool) (lu:Addr) (S:List Bw),x=.str (sd u)/\y=.ref lu/\BowsAt H2 lu S/\SideOf b ns u S/\i+1=(if u then 2 else 1):=by
    match i,hx,hy with
    | 0,hx,hy=>cases hx;cases hy;exact⟨false,l,L,rfl,rfl,BO.left.same s2,BO.isL,rfl⟩
    | 1,hx,hy=>cases hx;cases hy;exact⟨true,r,R,rfl,rfl,BO.right.same s2,BO.isR,rfl⟩
    | j+2,hx,hy=>simp at hx
   walk_at "wp"
   refine⟨_,SqT.of upd_same,rfl,?_⟩
   have s3:=(Same.refl H2).new (o:=.tup [.str (sd u),.ref lu]) np
   walk_at "wp"
   refine⟨lu,S,rfl,hBS.same s3,fun hc=>⟨trivial,?_⟩,fun e1 h1 e2 h2 z t2 a2 b2 H3 nt2 s4 ht2 ta tb=>⟨trivial,?_⟩⟩
   ·walk_at "wp"
    refine ifN (fun z=>z trivial) ⟨_,_,_,rfl,s2.trans s3,fun v hv=>?_⟩
    by_cases e:v=u
    ·subst e
     exact fun p hp q hq=>hc p (hS.perm.mem_iff.mpr hp) q (hS.perm.mem_iff.mpr hq)
    ·refine hn v ?_
     cases u<;>cases v<;>simp_all
   ·walk_at "wp"
    refine ifY (fun z=>nomatch z) ⟨_,_,SqT.of ht2,rfl,_,_,SqT.of ht2,rfl,(by show 3<=sizeLine;decide),fun t3 nt3=>?_⟩
    have s5:=(Same.refl H3).new (o:=.tup [.str (sd u),.ref a2,.ref b2]) nt3
    exact qc u e1 (hS.perm.mem_iff.mp h1) e2 (hS.perm.mem_iff.mp h2) z t3 _ ((((s1.trans s2).trans s3).trans s4).trans s5) ⟨a2,b2,upd_same,s5 _ _ ta,s5 _ _ tb⟩
  ·rintro σ H2 ⟨x1,x2,x3,rfl,s2,hn⟩
   walk_at "wp"
   exact qn (fun u=>hn u (by cases u<;>decide)) _ (s1.trans s2)
theorem ok_vet (E:Fn K mg "vet" s_vet ["maze"]) (D_is_maze:Def P w K mg base 3 "is_maze" s_is_maze ["thing"] spIsMaze) (D_crossed:Def P w K mg base 4 "crossed" s_crossed ["maze"] spCrossed):Def P w K mg base 5 "vet" s_vet ["maze"] spVetN:=E.mk' fun f fd F=>by
 refine F.okS sc_vet (fun vs H Q E h=>?_) (fun cdv A outer s H vs Q E hr h=>?_)
 ·obtain⟨m,o,b,ns,rfl,_⟩:=h
  rfl
 ·obtain⟨m,o,b,ns,rfl,hm,O,nc,q⟩:=h
  refine⟨[some (.ref m),none],_,rfl,(L2.QSs.h (qpss_cons (qps_if (qpt_not (qpt_val (qpe_callD D_is_maze (hr.mono (by decide)) (by rfl) (qpa_Name (qpv 0) qpa_nil))))
   (qpss_one qps_never)
   qpss_nil)
   (qpss_cons (qps_set (i:=1) sc_vet.nd rfl (Or.inl rfl) (qpe_callD D_crossed (hr.mono (by decide)) (by rfl) (qpa_Name (qpv 0) qpa_nil)))
   (qpss_cons (qps_if (qpt_cmpR op_notN (qpv 1) qpe_non (nomark _))
   (qpss_one qps_never)
   qpss_nil)
   (qpss_one (qps_ret qpe_bl)))))),?_⟩
  walk_at "wp"
  refine⟨_,_,rfl,hm.dat,mzD_pl,fun H1 s1=>?_⟩
  rw [mzD_ok O]
  walk_at "wp"
  refine⟨m,o,b,ns,rfl,hm.same s1,O,fun nc H2 s2=>⟨trivial,?_⟩,fun u p hp q' hq z=>by rw [nc u p hp q' hq] at z;cases z⟩
  walk_at "wp"
  exact ifN (fun z=>z trivial) (q _ (s1.trans s2))
theorem ok_span (E:Fn K mg "span" s_span ["bow"]):Def P w K mg base 1 "span" s_span ["bow"] spSpan:=E.mk' fun f fd F=>by
 refine F.okS sc_span (fun vs H Q E h=>?_) (fun cdv A outer s H vs Q E hr h=>?_)
 ·obtain⟨a,p,rfl,_⟩:=h
  rfl
 ·obtain⟨a,p,rfl,ta,q⟩:=h
  refine⟨[some (.ref a)],_,rfl,(L2.QSs.h (qpss_one (qps_ret (qpe_op op_sub (qpe_ix ix_tup (qpv 0) qpe_int (fun _ _=>rfl)) (qpe_ix ix_tup (qpv 0) qpe_int (fun _ _=>rfl)))))),?_⟩
  walk_at "wp"
  refine⟨_,_,SqT.of ta,rfl,_,_,SqT.of ta,rfl,?_⟩
  walk_at "wp"
  exact q
theorem ok_lies_within (E:Fn K mg "lies_within" s_lies_within ["inner","outer"]):Def P w K mg base 1 "lies_within" s_lies_within ["inner","outer"] spWithin:=E.mk' fun f fd F=>by
 refine F.okS sc_lies_within (fun vs H Q E h=>?_) (fun cdv A outer s H vs Q E hr h=>?_)
 ·obtain⟨a,b,p,q,rfl,_⟩:=h
  rfl
 ·obtain⟨a,b,p,q',rfl,ta,tb,q⟩:=h
  refine⟨[some (.ref a),some (.ref b)],_,rfl,(L2.QSs.h (qpss_one (qps_ret (qpe_and (qpe_cmpR op_lt (qpe_ix ix_tup (qpv 1) qpe_int (fun _ _=>rfl)) (qpe_ix ix_tup (qpv 0) qpe_int (fun _ _=>rfl)) (nomark _)) (qpe_one (qpe_cmpR op_lt (qpe_ix ix_tup (qpv 0) qpe_int (fun _ _=>rfl)) (qpe_ix ix_tup (qpv 1) qpe_int (fun _ _=>rfl)) (nomark _))))))),?_⟩
  walk_at "wp"
  refine⟨_,_,SqT.of tb,rfl,_,_,SqT.of ta,rfl,?_⟩
  walk_at "wp"
  refine ite2 (fun h1=>⟨_,_,SqT.of ta,rfl,_,_,SqT.of tb,rfl,?_⟩) (fun h1=>?_)
  ·walk_at "wp"
   have e:inZ p q'=decide (p.2<q'.2):=by show (decide (q'.1<p.1)&&_)=_;rw [decide_eq_true h1];rfl
   rw [e] at q
   exact q
  ·have e:inZ p q'=false:=by show (decide (q'.1<p.1)&&_)=_;rw [decide_eq_false h1];rfl
   rw [e] at q
   exact q
theorem ok_heights (B:Blt mg) (E:Fn K mg "heights" s_heights ["bows"]) (D_span:Def P w K mg base 1 "span" s_span ["bow"] spSpan) (D_lies_within:Def P w K mg base 1 "lies_within" s_lies_within ["inner","outer"] spWithin):Def P w K mg base 4 "heights" s_heights ["bows"] spHeights:=E.mk' fun f fd F=>by
 refine F.okS sc_heights (fun vs H Q E h=>?_) (fun cdv A outer s H vs Q E hr h=>?_)
 ·obtain⟨l,ps,rfl,_⟩:=h
  rfl
 ·obtain⟨l,ps,rfl,bo,nd,hl,q⟩:=h
  refine⟨[some (.ref l),none,none,none],_,rfl,(L2.QSs.h (qpss_cons (qps_set (i:=1) sc_heights.nd rfl (Or.inr rfl) qpe_dnewT)
   (qpss_cons (qps_for PassesOwn.never rfl (qpi_list (qpe_sortK D_span (hr.mono (by decide)) (by rfl) B.sorted (by rfl) (qpv 0))) (qpg_name (i:=2) sc_heights.nd rfl (Or.inr rfl))
   (qpss_cons (qps_setCD (i:=3) sc_heights.nd rfl (Or.inl rfl) (own:=["other"]) (ns:=["known","bow"]) (caps:=[1,2]) rfl ⟨rfl,by decide +kernel,by decide +kernel,by decide +kernel⟩ (.cons rfl rfl (.inl rfl) (.cons rfl rfl (.inl rfl) .nil)) (qpv 1) (fun C s H fp pn=>(qpg_name (i:=0) (show List.Nodup ((["other"]:List Str)++(["known","bow"]:List Str)) by decide +kernel) rfl (Or.inl rfl))) (fun C s H fp pn=>(qpf_one (qpt_val (qpe_callD D_lies_within (hr.mono (by decide)) (by rfl) (qpa_Name (qpv 0) (qpa_Name (qpv 2) qpa_nil)))))) (fun C s H fp pn=>(qpe_dget (hu_1 hr) (qpv 1) (qpv 0) (fun _ _=>rfl))))
    (qpss_one (qps_dput (hu_1 hr) (qpv 1) (qpv 2) (qpe_op op_add qpe_int (qpe_maxD rfl (by rfl) B.max (qpv 3) qpe_int)) rfl))))
   (qpss_one (qps_ret (qpe_comp (own:=["bow"]) (ns:=["known"]) (caps:=[1]) rfl ⟨rfl,by decide +kernel,by decide +kernel,by decide +kernel⟩ (.cons rfl rfl (.inl rfl) .nil) (qpi_list (qpv 0)) (fun C s H fp pn=>(qpg_name (i:=0) (show List.Nodup ((["bow"]:List Str)++(["known"]:List Str)) by decide +kernel) rfl (Or.inl rfl))) (fun C s H fp pn=>qpf_nil) (fun C s H fp pn=>(qpe_dget (hu_1 hr) (qpv 1) (qpv 0) (fun _ _=>rfl))))))))),?_⟩
  walk_at "wp"
  intro kn nkn
  obtain⟨as,b1,b2⟩:=id bo
  have hal:as.length=ps.length:=Paired.length b2
  have sk:=(Same.refl H).new (o:=.dT []) nkn
  obtain⟨zz,eas,eps,hz⟩:=paired_zip b2
  refine⟨l,as.map V.ref,ps.map spanZ,rfl,SqL.of (sk _ _ b1),by rw [List.length_map];omega,by rw [List.length_map,List.length_map,hal],fun i x k Q' hx hk hq=>?_,fun l' zs nl' hp hs=>?_⟩
  ·rw [List.getElem?_map] at hx hk
   cases ea:as[i]? with
   | none=>rw [ea] at hx;cases hx
   | some a=>
    rw [ea] at hx
    cases hx
    obtain⟨p,hp,ta⟩:=paired_get b2 ea
    rw [hp] at hk
    cases hk
    exact⟨a,p,rfl,ta.same sk,hq⟩
  have ezip:(ps.map spanZ).zip (as.map V.ref)=zz.map fun z=>(spanZ z.2,V.ref z.1):=by
   rw [eas,eps]
   clear eas eps hz b1 b2 hal hp hs bo nd hl q
   induction zz with
   | nil=>rfl
   | cons z zz ih=>
    simp only [List.map_map] at ih
    simp [ih]
  rw [ezip] at hp
  obtain⟨ws,hw,rfl⟩:=perm_of_map hp rfl
  have hq1:(ws.map (·.2)).Perm ps:=by rw [eps];exact hw.map _
  have hsp:(ws.map (·.2)).Pairwise (fun a b=>spanZ a<=spanZ b):=by
   rw [List.pairwise_map] at hs ⊢
   exact hs
  have hwl:ws.length=ps.length:=by rw [hw.length_eq,eps,List.length_map]
  have ndq:(ws.map (·.2)).Nodup:=hq1.nodup_iff.mpr nd
  have tw:∀ z∈ws,tupAt H z.1 z.2:=fun z m=>hz z (hw.mem_iff.mp m)
  have ew:(ws.map fun z=>(spanZ z.2,V.ref z.1)).map (·.2)=ws.map fun z=>V.ref z.1:=by rw [List.map_map];rfl
  rw [ew]
  have nl0:H l'=none:=sk.free nl'
  have nkl:kn≠l':=fun e=>by subst e;rw [upd_same] at nl';cases nl'
  refine⟨⟨_,SqL.of upd_same⟩,for_list (xs:=ws.map fun z=>V.ref z.1) (fun i σ H2=>∃ (x2 x3:Option V) (acc:Acc),σ=[some (.ref l),some (.ref kn),x2,x3]/\Same H H2/\H2 l'=some (.lst (ws.map fun z=>V.ref z.1))/\H2 kn=some (.dT (dB acc))/\Kn (ws.map (·.2)) i acc)
   ⟨none,none,[],rfl,sk.new nl0,upd_same,by rw [upd_ne nkl,upd_same];rfl,Kn.start _⟩ (fun i σ H2 _ ⟨_,_,_,_,_,e,_⟩=>SqL.of e) ?_ ?_⟩
  ·rintro i x σ H2 hx ⟨x2,x3,acc,rfl,sm,hl2,hk2,KN⟩
   rw [List.getElem?_map] at hx
   cases ez:ws[i]? with
   | none=>rw [ez] at hx;cases hx
   | some z=>
    rw [ez] at hx
    cases hx
    obtain⟨a,p⟩:=z
    have hi:=(List.getElem?_eq_some_iff.mp ez).1
    have ta:tupAt H a p:=tw _ (List.mem_of_getElem? ez)
    have ta2:=ta.same sm
    have nak:a≠kn:=ne_of_none ta nkn
    have hqi:(ws.map (·.2))[i]? = some p:=by rw [List.getElem?_map,ez];rfl
    have hacc:acc.length=i:=KN.len (by rw [List.length_map];omega)
    have ndk:(acc.map (·.1)).Nodup:=by rw [KN.keys];exact ndq.sublist (List.take_sublist _ _)
    have hnp:p∉acc.map (·.1):=fun hm=>by
     rw [KN.keys] at hm
     obtain⟨j,hj,ej⟩:=List.getElem_of_mem hm
     rw [List.length_take] at hj
     rw [List.getElem_take] at ej
     obtain⟨hi2,e2⟩:=List.getElem?_eq_some_iff.mp hqi
     have:=(List.getElem_inj ndq (h₀:=by omega) (h₁:=hi2)).mp (ej.trans e2.symm)
     omega
    walk_at "wp"
    refine⟨_,hk2,fun o=>?_⟩
    refine comp_dict (a:=kn) (o:=o) (kvs:=dB acc) (by rw [dB,List.length_map];exact Nat.le_of_lt (small1000 (by omega)))
     (fun j ys σ H'=>H'=upd H2 kn (.frz o (.dT (dB acc)))/\ys=(((acc.take j).filter fun e=>inZ e.1 p).map fun e=>V.int e.2)/\∃ x0,σ=[x0,some (.ref kn),some (.ref a)]) ⟨rfl,by simp,_,rfl⟩ ?_ ?_ ?_
    ·rintro j ys σ H' ⟨rfl,rfl,_⟩
     refine⟨upd_same,?_⟩
     rw [List.length_map]
     exact Nat.le_trans (List.length_filter_le _ _) (by rw [List.length_take];omega)
    ·rintro j k v b ys σ H' N hkv hb ⟨rfl,rfl,x0,rfl⟩ hN
     unfold dB at hkv
     rw [List.getElem?_map] at hkv
     cases ee:acc[j]? with
     | none=>rw [ee] at hkv;cases hkv
     | some e=>
      rw [ee] at hkv
      cases hkv
      have tb:tupAt (upd H2 kn (.frz o (.dT (dB acc)))) b e.1:=hb
      have tav:tupAt (upd H2 kn (.frz o (.dT (dB acc)))) a p:=by show upd _ _ _ a=_;rw [upd_ne nak];exact ta2
      walk_at "wp"
      refine⟨b,a,e.1,p,rfl,tb,tav,?_⟩
      walk_at "wp"
      have tk:acc.take (j+1)=acc.take j++[e]:=by rw [List.take_add_one,ee];rfl
      cases hin:inZ e.1 p with
      | true=>
       refine ifY rfl ⟨_,.inr ⟨dB acc,keyB e.1,b,.inr ⟨o,upd_same⟩,rfl,hb,(dB_val ndk (List.mem_of_getElem? ee)).symm⟩,hN _ _ _ ⟨rfl,?_,_,rfl⟩⟩
       rw [tk,List.filter_append,List.map_append]
       simp [hin]
      | false=>
       refine ifN (by decide) (hN _ _ _ ⟨rfl,?_,_,rfl⟩)
       rw [tk,List.filter_append,List.map_append]
       simp [hin]
    ·rintro ys σ H' pn ⟨rfl,rfl,x0,rfl⟩ npn
     have edl:(dB acc).length=acc.length:=by rw [dB,List.length_map]
     rw [edl,List.take_length]
     have nkp:kn≠pn:=fun e=>by subst e;rw [upd_same] at npn;cases npn
     have nH2p:H2 pn=none:=by rw [upd_ne nkp.symm] at npn;exact npn
     have nHp:H pn=none:=sm.free nH2p
     refine⟨by rw [upd_ne nkp,upd_same],?_⟩
     have sm3:=((sm.new (o:=.frz o (.dT (dB acc))) nkn).new (o:=.lst ((acc.filter fun e=>inZ e.1 p).map fun e=>V.int e.2)) nHp).new (o:=.dT (dB acc)) nkn
     have hlp:l'≠pn:=ne_of_none hl2 nH2p
     walk_at "wp"
     refine⟨innerZ acc p,SqL.of (by rw [upd_ne nkp.symm,upd_same];unfold innerZ;rw [List.map_map];rfl),_,DPut.t (k:=keyB p) upd_same (sm3 _ _ ta) (by rw [edl];exact small1000 (by omega)),?_⟩
     rw [dB_put hnp]
     exact⟨_,_,acc++[(p,1+maxD (innerZ acc p) 0)],rfl,sm3.new nkn,by rw [upd_ne nkl.symm,upd_ne nkl.symm,upd_ne hlp,upd_ne nkl.symm];exact hl2,upd_same,KN.next hqi hsp⟩
  ·rintro σ H2 ⟨x2,x3,acc,rfl,sm,hl2,hk2,KN⟩
   have ewl:(ws.map fun z=>V.ref z.1).length=(ws.map (·.2)).length:=by simp
   rw [ewl] at KN
   have HT:=KN.hts hq1 nd
   have ndk:(acc.map (·.1)).Nodup:=by rw [KN.keys,List.take_length];exact ndq
   walk_at "wp"
   have bo2:=bo.same sm
   obtain⟨as2,c1,cl,cg⟩:=bo2.get
   refine⟨⟨_,SqL.of c1⟩,comp_mapL (SqL.of c1) (by rw [List.length_map];exact Nat.le_of_lt (small1000 (by omega))) ((ps.map (htOf acc)).map V.int) (by simp [cl]) (fun i x y Q' hx hy hq=>?_) fun p3 n3=>?_⟩
   ·obtain⟨t,p,rfl,hp,ht⟩:=cg i x hx
    walk_at "wp"
    have ey:y=V.int (htOf acc p):=by simp [hp] at hy;exact hy.symm
    rw [ey] at hq
    obtain⟨e,he,rfl⟩:∃ e∈acc,e.1=p:=by
     have:p∈acc.map (·.1):=by rw [KN.keys,List.take_length];exact hq1.mem_iff.mpr (List.mem_of_getElem? hp)
     obtain⟨e,h1,h2⟩:=List.mem_map.mp this
     exact⟨e,h1,h2⟩
    refine⟨.int e.2,?_,?_⟩
    ·rw [<-dB_val ndk he]
     exact DGet.t (k:=keyB e.1) hk2 ht
    ·rw [htOf_mem ndk he] at hq
     exact hq
   ·exact q p3 _ _ (sm.free n3) (sm.new (sm.free n3)) upd_same HT
theorem ok_line_of (E:Fn K mg "line_of" s_line_of ["row"]):Def P w K mg base 1 "line_of" s_line_of ["row"] spLineOf:=E.mk' fun f fd F=>by
 refine F.okS sc_line_of (fun vs H Q E h=>?_) (fun cdv A outer s H vs Q E hr h=>?_)
 ·obtain⟨r,rfl,_⟩:=h
  rfl
 ·obtain⟨r,rfl,q⟩:=h
  refine⟨[some (.int r)],_,rfl,(L2.QSs.h (qpss_one (qps_ret (qpe_op op_add (qpe_op op_mul qpe_int (qpv 0)) qpe_int)))),?_⟩
  walk_at "wp"
  exact⟨.inl ⟨by decide,by decide⟩,q⟩
theorem ok_greatest_height (B:Blt mg) (E:Fn K mg "greatest_height" s_greatest_height ["bows"]) (D_heights:Def P w K mg base 4 "heights" s_heights ["bows"] spHeights):Def P w K mg base 5 "greatest_height" s_greatest_height ["bows"] spGreat:=E.mk' fun f fd F=>by
 refine F.okS sc_greatest_height (fun vs H Q E h=>?_) (fun cdv A outer s H vs Q E hr h=>?_)
 ·obtain⟨l,S,rfl,_⟩:=h
  rfl
 ·obtain⟨l,S,rfl,bl,BS,q⟩:=h
  refine⟨[some (.ref l)],_,rfl,(L2.QSs.h (qpss_one (qps_ret (qpe_maxD rfl (by rfl) B.max (qpe_callD D_heights (hr.mono (by decide)) (by rfl) (qpa_Name (qpv 0) qpa_nil)) qpe_int)))),?_⟩
  walk_at "wp"
  refine⟨l,S,rfl,bl,BS.nd,BS.len,fun l' hs H1 nl s1 hl ht=>?_⟩
  walk_at "wp"
  refine⟨hs,SqL.of hl,?_⟩
  rw [hts_ok BS ht,maxD_mxH]
  exact q _ s1
theorem ok_by_row (B:Blt mg) (E:Fn K mg "by_row" s_by_row ["bows","columns"]):Def P w K mg base 1 "by_row" s_by_row ["bows","columns"] spByRow:=E.mk' fun f fd F=>by
 refine F.okS sc_by_row (fun vs H Q E h=>?_) (fun cdv A outer s H vs Q E hr h=>?_)
 ·obtain⟨l,k,S,c,rfl,_⟩:=h
  rfl
 ·obtain⟨l,k,S,c,rfl,⟨as,h1,pa⟩,BS,hk,q⟩:=h
  have al:=Paired.length pa
  refine⟨[some (.ref l),some (.ref k),none,none,none],_,rfl,(L2.QSs.h (qpss_cons (qps_set (i:=2) sc_by_row.nd rfl (Or.inl rfl) qpe_dnewK)
   (qpss_cons (qps_for PassesOwn.never rfl (qpi_zip (by rfl) B.zip (qpa_Name (qpv 0) (qpa_Name (qpv 1) qpa_nil))) (qpg_tup (n:=2) rfl (qpgs_cons (qpg_name (i:=3) sc_by_row.nd rfl (Or.inl rfl)) (qpgs_cons (qpg_name (i:=4) sc_by_row.nd rfl (Or.inl rfl)) qpgs_nil)))
   (qpss_cons (qps_dput (hu_1 hr) (qpv 2) (qpe_ix ix_tup (qpv 3) qpe_int (fun _ _=>rfl)) (qpv 4) rfl)
    (qpss_one (qps_dput (hu_1 hr) (qpv 2) (qpe_ix ix_tup (qpv 3) qpe_int (fun _ _=>rfl)) (qpv 4) rfl))))
   (qpss_one (qps_ret (qpv 2)))))),?_⟩
  walk_at "wp"
  intro d nd
  have sd0:=(Same.refl H).new (o:=.dK []) nd
  walk_at "wp"
  refine⟨l,k,rfl,⟨_,SqL.of (sd0 _ _ h1)⟩,⟨_,SqL.of (sd0 _ _ hk)⟩,?_⟩
  have bl40:=BS.len
  refine for_zipL (xs:=as.map V.ref) (ys:=S.map fun p=>V.int (c p:Nat)) (by rw [List.length_map,List.length_map];omega) (fun i σ H'=>∃ x3 x4 kvs,σ=[some (.ref l),some (.ref k),some (.ref d),x3,x4]/\Same H H'/\H' d=some (.dK kvs)/\kvs.length<=2 * i/\ColAt kvs (S.take i) c) ⟨_,_,[],rfl,sd0,upd_same,Nat.le_refl _,fun p hp=>by simp at hp⟩ (fun i σ H' ⟨_,_,_,_,s1,_⟩=>⟨SqL.of (s1 _ _ h1),SqL.of (s1 _ _ hk)⟩) ?_ ?_
  ·rintro i x y σ H' t hx hy ⟨x3,x4,kvs,rfl,s1,hd,hl,ca⟩ nt
   obtain⟨a,ha,rfl⟩:=got_map hx
   obtain⟨p,hp,tp⟩:=pair_get pa ha
   have ey:y=V.int (c p:Nat):=by
    rw [List.getElem?_map,hp] at hy
    exact (Option.some.inj hy).symm
   subst ey
   have hi:i<S.length:=(List.getElem?_eq_some_iff.mp hp).1
   have s2:=(Same.refl H').new (o:=.tup [.ref a,.int (c p:Nat)]) nt
   have ndt:d≠t:=ne_of_none hd nt
   walk_at "wp"
   refine⟨_,SqT.of upd_same,rfl,?_⟩
   walk_at "wp"
   have tp2:=s2 _ _ (s1 _ _ tp)
   have hd2:=s2 _ _ hd
   have nda:a≠d:=fun e=>by
    subst e
    rw [show _=_ from s1 _ _ tp] at hd;cases hd
   have tpy:∀ o,upd (upd H' t (.tup [.ref a,.int (c p:Nat)])) d o a=some (.tup [.int p.1,.int p.2]):=fun o=>by rw [upd_ne nda];exact tp2
   refine⟨_,_,SqT.of tp2,rfl,_,DPut.k (k:=.inl p.1) hd2 (small1000 (by omega)),_,_,SqT.of (tpy _),rfl,_,DPut.k (k:=.inl p.2) upd_same ?_,_,_,_,rfl,((s1.trans s2).new nd).new nd,upd_same,?_,?_⟩
   ·have:=length_putK kvs (.inl p.1:Key) (.int (c p:Nat));exact small1000 (by omega)
   ·have h3:=length_putK kvs (.inl p.1:Key) (.int (c p:Nat))
    have h4:=length_putK (putK kvs (.inl p.1:Key) (.int (c p:Nat))) (.inl p.2:Key) (.int (c p:Nat))
    omega
   ·have etk:S.take (i+1)=S.take i++[p]:=by rw [List.take_add_one,hp];rfl
    rw [etk]
    intro q' hq
    have pS:=List.mem_of_getElem? hp
    rcases List.mem_append.mp hq with h | h
    ·have qS:q'∈S:=List.mem_of_mem_take h
     have ne:q'≠p:=fun e=>by
      subst e
      obtain⟨j,hj⟩:=List.getElem?_of_mem h
      have jl:=(List.getElem?_eq_some_iff.mp hj).1
      rw [List.length_take] at jl
      rw [List.getElem?_take_of_lt (by omega)] at hj
      have h1:=List.getElem?_eq_some_iff.mp hj
      have h2:=List.getElem?_eq_some_iff.mp hp
      have:=(List.getElem_inj BS.nd (h₀:=h1.1) (h₁:=h2.1)).mp (h1.2.trans h2.2.symm)
      omega
     have dj:∀ x,(q'.1=x\/q'.2=x)->x≠p.1/\x≠p.2:=fun x hx=>⟨fun e=>ne (BS.one q' qS p pS x hx (.inl e.symm)),fun e=>ne (BS.one q' qS p pS x hx (.inr e.symm))⟩
     have key:∀ x,(q'.1=x\/q'.2=x)->valV (putK (putK kvs (.inl p.1:Key) (.int (c p:Nat))) (.inl p.2:Key) (.int (c p:Nat))) (.inl x:Key)=valV kvs (.inl x:Key):=fun x hx=>by
      obtain⟨d1,d2⟩:=dj x hx
      rw [valV_put,if_neg fun z=>d2 (Sum.inl.inj z),valV_put,if_neg fun z=>d1 (Sum.inl.inj z)]
     rw [key _ (.inl rfl),key _ (.inr rfl)]
     exact ca q' h
    ·have e:q'=p:=by simpa using h
     subst e
     refine⟨?_,?_⟩
     ·rw [valV_put]
      by_cases z:(.inl q'.1:Key)=.inl q'.2
      ·rw [if_pos z]
      ·rw [if_neg z,valV_put,if_pos rfl]
     ·rw [valV_put,if_pos rfl]
  ·rintro σ H' ⟨x3,x4,kvs,rfl,s1,hd,hl,ca⟩
   rw [List.length_map,al,List.take_length] at ca
   walk_at "wp"
   exact q d kvs H' nd s1 hd ca
theorem ok_left_columns (B:Blt mg) (E:Fn K mg "left_columns" s_left_columns ["bows","most_left"]) (D_heights:Def P w K mg base 4 "heights" s_heights ["bows"] spHeights) (D_by_row:Def P w K mg base 1 "by_row" s_by_row ["bows","columns"] spByRow):Def P w K mg base 5 "left_columns" s_left_columns ["bows","most_left"] spLeftC:=E.mk' fun f fd F=>by
 refine F.okS sc_left_columns (fun vs H Q E h=>?_) (fun cdv A outer s H vs Q E hr h=>?_)
 ·obtain⟨l,S,m,rfl,_⟩:=h
  rfl
 ·obtain⟨l,S,m,rfl,bl,BS,hm,q⟩:=h
  refine⟨[some (.ref l),some (.int (m:Nat))],_,rfl,(L2.QSs.h (qpss_one (qps_ret (qpe_callD D_by_row (hr.mono (by decide)) (by rfl) (qpa_Name (qpv 0) (qpa_ListComp (qpe_comp (own:=["height"]) (ns:=["most_left"]) (caps:=[1]) rfl ⟨rfl,by decide +kernel,by decide +kernel,by decide +kernel⟩ (.cons rfl rfl (.inl rfl) .nil) (qpi_list (qpe_callD D_heights (hr.mono (by decide)) (by rfl) (qpa_Name (qpv 0) qpa_nil))) (fun C s H fp pn=>(qpg_name (i:=0) (show List.Nodup ((["height"]:List Str)++(["most_left"]:List Str)) by decide +kernel) rfl (Or.inl rfl))) (fun C s H fp pn=>qpf_nil) (fun C s H fp pn=>(qpe_op op_add (qpe_op op_mul qpe_int (qpe_op op_sub (qpv 1) (qpv 0))) qpe_int))) qpa_nil)))))),?_⟩
  walk_at "wp"
  refine⟨l,S,rfl,bl,BS.nd,BS.len,fun l' hs H1 nl s1 hl ht=>?_⟩
  rw [hts_ok BS ht] at hl
  refine⟨l',rfl,⟨_,SqL.of hl⟩,comp_list (xs:=(S.map fun p=>((hF S p:Nat):Int)).map V.int) (fun i ys σ H'=>Same H1 H'/\ys=(S.take i).map (fun p=>V.int ((2 * (m - hF S p)+1:Nat):Int))/\∃ x0,σ=[x0,some (.int (m:Nat))]) ⟨Same.refl _,by simp,_,rfl⟩ ?_ (by rw [List.length_map,List.length_map];have:=BS.len;exact Nat.le_of_lt (small1000 (by omega))) ?_ ?_⟩
  ·rintro i ys σ H' ⟨s2,rfl,_⟩
   exact⟨SqL.of (s2 _ _ hl),by simp;omega⟩
  ·rintro i x ys σ H' N hx ⟨s2,rfl,x0,rfl⟩ hN
   obtain⟨v,hv,rfl⟩:=got_map hx
   obtain⟨p,hp,rfl⟩:∃ p,S[i]? = some p/\((hF S p:Nat):Int)=v:=by
    rw [List.getElem?_map] at hv
    exact Option.map_eq_some_iff.mp hv
   have hle:=Nat.le_trans (mxH_ge (List.mem_of_getElem? hp)) hm
   walk_at "wp"
   refine⟨.inl ⟨by decide,by decide⟩,hN _ _ _ ⟨s2,?_,_,rfl⟩⟩
   rw [List.take_add_one,hp]
   simp only [Option.toList_some,List.map_append,List.map_cons,List.map_nil]
   congr 2
   congr 1
   omega
  ·rintro ys σ H' p ⟨s2,rfl,_⟩ np
   rw [List.length_map,List.length_map,List.take_length]
   have s3:=(Same.refl H').new (o:=.lst (S.map fun p=>V.int ((2 * (m - hF S p)+1:Nat):Int))) np
   exact⟨l,p,S,fun p=>2 * (m - hF S p)+1,rfl,bl.same (s1.trans (s2.trans s3)),BS,upd_same,fun d kvs H4 nd s4 hd ca=>q d kvs H4 ((s1.trans (s2.trans s3)).free nd) ((s1.trans (s2.trans s3)).trans s4) hd ca⟩
theorem ok_right_columns (B:Blt mg) (E:Fn K mg "right_columns" s_right_columns ["bows","most_left"]) (D_heights:Def P w K mg base 4 "heights" s_heights ["bows"] spHeights) (D_by_row:Def P w K mg base 1 "by_row" s_by_row ["bows","columns"] spByRow):Def P w K mg base 5 "right_columns" s_right_columns ["bows","most_left"] spRightC:=E.mk' fun f fd F=>by
 refine F.okS sc_right_columns (fun vs H Q E h=>?_) (fun cdv A outer s H vs Q E hr h=>?_)
 ·obtain⟨l,S,m,rfl,_⟩:=h
  rfl
 ·obtain⟨l,S,m,rfl,bl,BS,q⟩:=h
  refine⟨[some (.ref l),some (.int (m:Nat))],_,rfl,(L2.QSs.h (qpss_one (qps_ret (qpe_callD D_by_row (hr.mono (by decide)) (by rfl) (qpa_Name (qpv 0) (qpa_ListComp (qpe_comp (own:=["height"]) (ns:=["most_left"]) (caps:=[1]) rfl ⟨rfl,by decide +kernel,by decide +kernel,by decide +kernel⟩ (.cons rfl rfl (.inl rfl) .nil) (qpi_list (qpe_callD D_heights (hr.mono (by decide)) (by rfl) (qpa_Name (qpv 0) qpa_nil))) (fun C s H fp pn=>(qpg_name (i:=0) (show List.Nodup ((["height"]:List Str)++(["most_left"]:List Str)) by decide +kernel) rfl (Or.inl rfl))) (fun C s H fp pn=>qpf_nil) (fun C s H fp pn=>(qpe_op op_sub (qpe_op op_add (qpe_op op_mul qpe_int (qpv 1)) (qpe_op op_mul qpe_int (qpv 0))) qpe_int))) qpa_nil)))))),?_⟩
  walk_at "wp"
  refine⟨l,S,rfl,bl,BS.nd,BS.len,fun l' hs H1 nl s1 hl ht=>?_⟩
  rw [hts_ok BS ht] at hl
  refine⟨l',rfl,⟨_,SqL.of hl⟩,comp_list (xs:=(S.map fun p=>((hF S p:Nat):Int)).map V.int) (fun i ys σ H'=>Same H1 H'/\ys=(S.take i).map (fun p=>V.int ((2 * m+2 * hF S p - 1:Nat):Int))/\∃ x0,σ=[x0,some (.int (m:Nat))]) ⟨Same.refl _,by simp,_,rfl⟩ ?_ (by rw [List.length_map,List.length_map];have:=BS.len;exact Nat.le_of_lt (small1000 (by omega))) ?_ ?_⟩
  ·rintro i ys σ H' ⟨s2,rfl,_⟩
   exact⟨SqL.of (s2 _ _ hl),by simp;omega⟩
  ·rintro i x ys σ H' N hx ⟨s2,rfl,x0,rfl⟩ hN
   obtain⟨v,hv,rfl⟩:=got_map hx
   obtain⟨p,hp,rfl⟩:∃ p,S[i]? = some p/\((hF S p:Nat):Int)=v:=by
    rw [List.getElem?_map] at hv
    exact Option.map_eq_some_iff.mp hv
   have hle:=hF_pos BS.lt (List.mem_of_getElem? hp)
   walk_at "wp"
   refine⟨.inl ⟨by decide,by decide⟩,.inl ⟨by decide,by decide⟩,hN _ _ _ ⟨s2,?_,_,rfl⟩⟩
   rw [List.take_add_one,hp]
   simp only [Option.toList_some,List.map_append,List.map_cons,List.map_nil]
   congr 2
   congr 1
   omega
  ·rintro ys σ H' p ⟨s2,rfl,_⟩ np
   rw [List.length_map,List.length_map,List.take_length]
   have s3:=(Same.refl H').new (o:=.lst (S.map fun p=>V.int ((2 * m+2 * hF S p - 1:Nat):Int))) np
   exact⟨l,p,S,fun p=>2 * m+2 * hF S p - 1,rfl,bl.same (s1.trans (s2.trans s3)),BS,upd_same,fun d kvs H4 nd s4 hd ca=>q d kvs H4 ((s1.trans (s2.trans s3)).free nd) ((s1.trans (s2.trans s3)).trans s4) hd ca⟩
theorem ok_carve_bows (B:Blt mg) (E:Fn K mg "carve_bows" s_carve_bows ["grid","bows","columns"]) (D_line_of:Def P w K mg base 1 "line_of" s_line_of ["row"] spLineOf):Def P w K mg base 2 "carve_bows" s_carve_bows ["grid","bows","columns"] spCarveB:=E.mk' fun f fd F=>by
 refine F.okS sc_carve_bows (fun vs H Q E h=>?_) (fun cdv A outer s H vs Q E hr h=>?_)
 ·obtain⟨g,l,d,as,w,G,S,c,kvs,rfl,_⟩:=h
  rfl
 ·obtain⟨g,l,d,as,w,G,S,c,kvs,rfl,gr,nl,⟨bs,h1,pa⟩,hd,ca,bd,hA,hw,q⟩:=h
  have al:=Paired.length pa
  refine⟨[some (.ref g),some (.ref l),some (.ref d),none,none,none],_,rfl,(L2.QSs.h (qpss_one (qps_for PassesOwn.never rfl (qpi_list (qpv 1)) (qpg_tup (n:=2) rfl (qpgs_cons (qpg_name (i:=3) sc_carve_bows.nd rfl (Or.inl rfl)) (qpgs_cons (qpg_name (i:=4) sc_carve_bows.nd rfl (Or.inl rfl)) qpgs_nil)))
   (qpss_one (qps_for PassesOwn.never rfl (qpi_range2 (by rfl) B.range (qpa_Call (qpe_callD D_line_of (hr.mono (by decide)) (by rfl) (qpa_Name (qpv 3) qpa_nil)) (qpa_BinOp (qpe_op op_add (qpe_callD D_line_of (hr.mono (by decide)) (by rfl) (qpa_Name (qpv 4) qpa_nil)) qpe_int) qpa_nil))) (qpg_name (i:=5) sc_carve_bows.nd rfl (Or.inl rfl))
    (qpss_one (qps_asg (qpe_globS (by rfl) B.OPEN_CELL) (qpg_sub (qpe_ix ix_list (qpv 0) (qpv 5) (fun _ _=>rfl)) (qpe_dget (hu_1 hr) (qpv 2) (qpv 3) (fun _ _=>rfl)) set_list)))))))),?_⟩
  walk_at "wp"
  refine⟨⟨_,SqL.of h1⟩,?_⟩
  have ndA:d∉as:=gr.off hd fun xs e=>nomatch e
  refine for_list (xs:=bs.map V.ref) (fun i σ H'=>∃ x3 x4 x5:Option V,σ=[some (.ref g),some (.ref l),some (.ref d),x3,x4,x5]/\Keeps as H H'/\GridAt H' g as w (opn G (opB (S.take i) c))) ⟨_,_,_,rfl,Keeps.refl _ _,gr.congr fun i x _ _=>by simp [opn,opB]⟩ ?_ ?_ ?_
  ·rintro i σ H' _ ⟨_,_,_,rfl,kp,_⟩
   exact SqL.of (kp _ _ nl h1)
  ·rintro i x σ H' hx ⟨x3,x4,x5,rfl,kp,gr'⟩
   obtain⟨a,ha,rfl⟩:=got_map hx
   obtain⟨p,hp,tp⟩:=pair_get pa ha
   have pS:=List.mem_of_getElem? hp
   obtain⟨b0,b1,b2,b3⟩:=bd p pS
   have naA:a∉as:=gr.off tp fun xs e=>nomatch e
   have tp':=kp _ _ naA tp
   walk_at "wp"
   refine⟨_,SqT.of tp',rfl,?_⟩
   walk_at "wp"
   refine⟨_,rfl,_,rfl,?_⟩
   walk_at "wp"
   refine⟨⟨by omega,by omega,by omega,by omega⟩,?_⟩
   obtain⟨lo,hlo⟩:=Int.eq_ofNat_of_zero_le (show 0<=2 * p.1+1 by omega)
   generalize hn:(2 * p.2+1+1 - (2 * p.1+1)).toNat=n
   refine for_range (n:=n) (fun j σ H'=>∃ x5:Option V,σ=[some (.ref g),some (.ref l),some (.ref d),some (.int p.1),some (.int p.2),x5]/\Keeps as H H'/\GridAt H' g as w (opn G fun i' x=>opB (S.take i) c i' x || (decide (lo<=i'/\i'<lo+j)&&decide (x=c p)))) ⟨_,rfl,kp,gr'.congr fun i' x _ _=>?_⟩ ?_ ?_
   ·refine opn_eq ?_
    rw [decide_eq_false (show ¬ (lo<=i'/\i'<lo+0) by omega),Bool.false_and,Bool.or_false]
   ·rintro j σ H2 hj ⟨x5',rfl,kp2,gr2⟩
    have hk:lo+j<as.length:=by omega
    have ga:as[lo+j]? = some as[lo+j]:=List.getElem?_eq_getElem hk
    have at1:atI (as.map V.ref) (2 * p.1+1+(j:Int))=some (.ref as[lo+j]):=by
     rw [show 2 * p.1+1+(j:Int)=((lo+j:Nat):Int) by omega]
     exact atI_nat (by rw [List.getElem?_map,ga];rfl)
    have dg:=DGet.k (k:=.inl p.1) (kp2 _ _ ndA hd)
    rw [(ca p pS).1] at dg
    walk_at "wp"
    refine⟨_,_,SqL.of gr2.top,at1,_,dg,_,_,_,c p,rfl,rfl,gr2.row _ _ ga,?_,?_⟩
    ·rw [rwV_len];unfold ixN;rw [if_pos (by omega),if_pos (by omega),Int.toNat_natCast]
    have dot:V.str (Str.ofString ".")=sg1 46:=by unfold sg1;rw [show Str.ofString "."=(⟨#[46]⟩:Str) by decide +kernel]
    rw [dot]
    refine⟨_,rfl,kp2.trans (Keeps.upd (List.mem_of_getElem? ga)),(gr2.set ga).congr fun i' x _ _=>?_⟩
    refine opn_set ?_
    rw [Bool.or_assoc]
    congr 1
    rw [<-Bool.decide_and,<-Bool.decide_and,<-Bool.decide_or]
    exact decide_eq_decide.mpr (by omega)
   ·rintro σ H2 ⟨x5',rfl,kp2,gr2⟩
    refine⟨_,_,_,rfl,kp2,gr2.congr fun i' x _ _=>?_⟩
    have etk:S.take (i+1)=S.take i++[p]:=by rw [List.take_add_one,hp];rfl
    refine opn_eq ?_
    unfold opB
    rw [etk,List.any_append]
    congr 1
    simp only [List.any_cons,List.any_nil,Bool.or_false]
    unfold inL
    rw [<-Bool.decide_and,<-Bool.decide_and,<-Bool.decide_and]
    exact decide_eq_decide.mpr (by omega)
  ·rintro σ H' ⟨_,_,_,rfl,kp,gr'⟩
   rw [List.length_map,al,List.take_length] at gr'
   exact q H' kp gr'
theorem ok_carve_rings (B:Blt mg) (E:Fn K mg "carve_rings" s_carve_rings ["grid","rings","lefts","rights"]) (D_line_of:Def P w K mg base 1 "line_of" s_line_of ["row"] spLineOf):Def P w K mg base 2 "carve_rings" s_carve_rings ["grid","rings","lefts","rights"] spCarveR:=E.mk' fun f fd F=>by
 refine F.okS sc_carve_rings (fun vs H Q E h=>?_) (fun cdv A outer s H vs Q E hr h=>?_)
 ·obtain⟨g,dl,dr,as,w,G,kl,kr,n,kL,kR,rfl,_⟩:=h
  rfl
 ·obtain⟨g,dl,dr,as,w,G,kl,kr,n,kL,kR,rfl,gr,hdl,hdr,hc,hn,hA,hw,q⟩:=h
  refine⟨[some (.ref g),some (.int (n:Nat)),some (.ref dl),some (.ref dr),none,none],_,rfl,(L2.QSs.h (qpss_one (qps_for PassesOwn.never rfl (qpi_range2 (by rfl) B.range (qpa_Constant qpe_int (qpa_BinOp (qpe_op op_add (qpv 1) qpe_int) qpa_nil))) (qpg_name (i:=4) sc_carve_rings.nd rfl (Or.inl rfl))
   (qpss_one (qps_for PassesOwn.never rfl (qpi_range2 (by rfl) B.range (qpa_Subscript (qpe_dget (hu_1 hr) (qpv 2) (qpv 4) (fun _ _=>rfl)) (qpa_BinOp (qpe_op op_add (qpe_dget (hu_1 hr) (qpv 3) (qpv 4) (fun _ _=>rfl)) qpe_int) qpa_nil))) (qpg_name (i:=5) sc_carve_rings.nd rfl (Or.inl rfl))
    (qpss_one (qps_asg (qpe_globS (by rfl) B.OPEN_CELL) (qpg_sub (qpe_ix ix_list (qpv 0) (qpe_callD D_line_of (hr.mono (by decide)) (by rfl) (qpa_Name (qpv 4) qpa_nil)) (fun _ _=>rfl)) (qpv 5) set_list)))))))),?_⟩
  walk_at "wp"
  have nlA:dl∉as:=gr.off hdl fun xs e=>nomatch e
  have nrA:dr∉as:=gr.off hdr fun xs e=>nomatch e
  refine⟨⟨by omega,by omega,by omega,by omega⟩,?_⟩
  rw [show (((n:Nat):Int)+1 - 1).toNat=n by omega]
  refine for_range (n:=n) (fun i σ H'=>∃ x4 x5:Option V,σ=[some (.ref g),some (.int (n:Nat)),some (.ref dl),some (.ref dr),x4,x5]/\Keeps as H H'/\GridAt H' g as w (opn G (opG i kL kR))) ⟨_,_,rfl,Keeps.refl _ _,gr.congr fun i x _ _=>?_⟩ ?_ ?_
  ·have:¬ (i % 2=1/\3<=i/\i<=2 * 0+1):=by omega
   simp only [opn,opG,decide_eq_false this,Bool.false_and,Bool.false_eq_true,if_false]
  ·rintro i σ H' hi ⟨x4,x5,rfl,kp,gr'⟩
   obtain⟨c1,c2,c4,c3⟩:=hc (i+1) (by omega) (by omega)
   have dg1:=DGet.k (k:=.inl ((i+1:Nat):Int)) (kp _ _ nlA hdl)
   have dg2:=DGet.k (k:=.inl ((i+1:Nat):Int)) (kp _ _ nrA hdr)
   rw [c1] at dg1
   rw [c2] at dg2
   have ei:(1:Int)+(i:Nat)=((i+1:Nat):Int):=by omega
   walk_at "wp"
   rw [ei]
   refine⟨_,dg1,_,dg2,?_⟩
   walk_at "wp"
   refine⟨⟨by omega,by omega,by omega,by omega⟩,?_⟩
   generalize hm:(((kR (i+1):Nat):Int)+1 - ((kL (i+1):Nat):Int)).toNat=m
   refine for_range (n:=m) (fun j σ H'=>∃ x5:Option V,σ=[some (.ref g),some (.int (n:Nat)),some (.ref dl),some (.ref dr),some (.int ((i+1:Nat):Int)),x5]/\Keeps as H H'/\GridAt H' g as w (opn G fun i' x=>opG i kL kR i' x || decide (i'=2 * (i+1)+1/\kL (i+1)<=x/\x<kL (i+1)+j))) ⟨_,rfl,kp,gr'.congr fun i' x _ _=>opn_eq ?_⟩ ?_ ?_
   ·rw [decide_eq_false (show ¬ (i'=2 * (i+1)+1/\kL (i+1)<=x/\x<kL (i+1)+0) by omega),Bool.or_false]
   ·rintro j σ H2 hj ⟨x5',rfl,kp2,gr2⟩
    have hk:2 * (i+1)+1<as.length:=by omega
    have ga:as[2 * (i+1)+1]? = some as[2 * (i+1)+1]:=List.getElem?_eq_getElem hk
    have at1:atI (as.map V.ref) (2 * ((i+1:Nat):Int)+1)=some (.ref as[2 * (i+1)+1]):=by
     rw [show 2 * ((i+1:Nat):Int)+1=((2 * (i+1)+1:Nat):Int) by omega]
     exact atI_nat (by rw [List.getElem?_map,ga];rfl)
    walk_at "wp"
    refine⟨_,rfl,_,_,_,_,rfl,rfl,SqL.of gr2.top,at1,_,_,_,kL (i+1)+j,rfl,rfl,gr2.row _ _ ga,?_,?_⟩
    ·rw [rwV_len];unfold ixN;rw [if_pos (by omega),if_pos (by omega)];congr 1
    have dot:V.str (Str.ofString ".")=sg1 46:=by unfold sg1;rw [show Str.ofString "."=(⟨#[46]⟩:Str) by decide +kernel]
    rw [dot]
    refine⟨_,rfl,kp2.trans (Keeps.upd (List.mem_of_getElem? ga)),(gr2.set ga).congr fun i' x _ _=>opn_set ?_⟩
    rw [Bool.or_assoc]
    congr 1
    rw [<-Bool.decide_or]
    exact decide_eq_decide.mpr (by omega)
   ·rintro σ H2 ⟨x5',rfl,kp2,gr2⟩
    refine⟨_,_,rfl,kp2,gr2.congr fun i' x _ _=>opn_eq ?_⟩
    unfold opG
    rw [<-Bool.decide_and,<-Bool.decide_and,<-Bool.decide_and,<-Bool.decide_or]
    refine decide_eq_decide.mpr ⟨fun h=>?_,fun h=>?_⟩
    ·rcases h with ⟨h1,h2,h3⟩ | ⟨h1,h2,h3⟩
     ·exact⟨by omega,h2,h3⟩
     ·subst h1
      rw [show (2 * (i+1)+1 - 1) / 2=i+1 by omega]
      exact⟨by omega,h2,by omega⟩
    ·obtain⟨h1,h2,h3⟩:=h
     by_cases z:i'<=2 * i+1
     ·exact .inl ⟨by omega,h2,h3⟩
     ·have e:i'=2 * (i+1)+1:=by omega
      subst e
      rw [show (2 * (i+1)+1 - 1) / 2=i+1 by omega] at h2 h3
      exact .inr ⟨rfl,h2,by omega⟩
  ·rintro σ H' ⟨_,_,rfl,kp,gr'⟩
   exact q H' kp gr'
theorem ok_mark (B:Blt mg) (E:Fn K mg "mark" s_mark ["line","sign"]):Def P w K mg base 1 "mark" s_mark ["line","sign"] spMark:=E.mk' fun f fd F=>by
 refine F.okS sc_mark (fun vs H Q E h=>?_) (fun cdv A outer s H vs Q E hr h=>?_)
 ·obtain⟨a,w,r,x0,c,rfl,_⟩:=h
  rfl
 ·obtain⟨a,w,r,x0,c,rfl,ha,hx,h46,hno,hw,q⟩:=h
  refine⟨[some (.ref a),some (.str ⟨#[c]⟩)],_,rfl,(L2.QSs.h (qpss_one (qps_asg (qpv 1) (qpg_sub (qpv 0) (qpe_bm PySem.F.plainAttrs_list PySem.F.slot_list_index PySem.F.type_list_index mt_indexS (qpv 0) (qpa_Name (qpe_globS (by rfl) B.OPEN_CELL) qpa_nil)) set_list)))),?_⟩
  walk_at "wp"
  have ek:rwV w r=((List.range w).map fun x=>(⟨#[r x]⟩:Str)).map V.str:=by unfold rwV;rw [List.map_map];rfl
  have dot:Str.ofString "."=⟨#[46]⟩:=by decide +kernel
  refine⟨w_tyL ha,(List.range w).map fun x=>(⟨#[r x]⟩:Str),x0,by rw [ha,ek],by simp;exact hw,?_,fun m hm=>?_,a,_,_,x0,rfl,rfl,ha,?_,q⟩
  ·rw [List.getElem?_map,List.getElem?_range hx,dot]
   show some (⟨#[r x0]⟩:Str)=_
   rw [h46]
  ·rw [List.getElem?_map,List.getElem?_range (by omega),dot]
   intro e
   have:=hno m hm
   have e2:(⟨#[r m]⟩:Str)=⟨#[46]⟩:=Option.some.inj e
   have e3:(⟨#[r m]⟩:Str)=tx [46]:=e2
   rw [eq_one] at e3
   exact this e3
  ·rw [rwV_len];unfold ixN;rw [if_pos (by omega),if_pos (by omega),Int.toNat_natCast]
theorem ok_drawn (B:Blt mg) (E:Fn K mg "drawn" s_drawn ["maze"]) (D_vet:Def P w K mg base 5 "vet" s_vet ["maze"] spVetN) (D_bows_of:Def P w K mg base 3 "bows_of" s_bows_of ["maze"] spBowsOf) (D_line_of:Def P w K mg base 1 "line_of" s_line_of ["row"] spLineOf) (D_greatest_height:Def P w K mg base 5 "greatest_height" s_greatest_height ["bows"] spGreat) (D_left_columns:Def P w K mg base 5 "left_columns" s_left_columns ["bows","most_left"] spLeftC) (D_right_columns:Def P w K mg base 5 "right_columns" s_right_columns ["bows","most_left"] spRightC) (D_carve_bows:Def P w K mg base 2 "carve_bows" s_carve_bows ["grid","bows","columns"] spCarveB) (D_carve_rings:Def P w K mg base 2 "carve_rings" s_carve_rings ["grid","rings","lefts","rights"] spCarveR) (D_mark:Def P w K mg base 1 "mark" s_mark ["line","sign"] spMark):Def P w K mg base 6 "drawn" s_drawn ["maze"] spDrawnN:=E.mk' fun f fd F=>by
 refine F.okS sc_drawn (fun vs H Q E h=>?_) (fun cdv A outer s H vs Q E hr h=>?_)
 ·obtain⟨m,o,b,ns,rfl,_⟩:=h
  rfl
 ·obtain⟨m,o,b,ns,rfl,hm,O,nc,q⟩:=h
  refine⟨[some (.ref m),none,none,none,none,none,none,none],_,rfl,(L2.QSs.h (qpss_cons (qps_expr (qpe_callD D_vet (hr.mono (by decide)) (by rfl) (qpa_Name (qpv 0) qpa_nil)))
   (qpss_cons (qps_set (i:=1) sc_drawn.nd rfl (Or.inl rfl) (qpe_callB call_len_seq (by rfl) B.len PySem.boot_len (qpa_Subscript (qpe_ix ix_tup (qpv 0) qpe_int (fun _ _=>rfl)) qpa_nil)))
   (qpss_cons (qps_set (i:=2) sc_drawn.nd rfl (Or.inl rfl) (qpe_callD D_bows_of (hr.mono (by decide)) (by rfl) (qpa_Name (qpv 0) qpa_nil)))
   (qpss_cons (qps_set (i:=3) sc_drawn.nd rfl (Or.inr rfl) (qpe_callD D_greatest_height (hr.mono (by decide)) (by rfl) (qpa_Subscript (qpe_ix ix_tup (qpv 2) qpe_int (fun _ _=>rfl)) qpa_nil)))
   (qpss_cons (qps_set (i:=4) sc_drawn.nd rfl (Or.inr rfl) (qpe_callD D_greatest_height (hr.mono (by decide)) (by rfl) (qpa_Subscript (qpe_ix ix_tup (qpv 2) qpe_int (fun _ _=>rfl)) qpa_nil)))
   (qpss_cons (qps_set (i:=5) sc_drawn.nd rfl (Or.inl rfl) (qpe_callD D_left_columns (hr.mono (by decide)) (by rfl) (qpa_Subscript (qpe_ix ix_tup (qpv 2) qpe_int (fun _ _=>rfl)) (qpa_Name (qpv 3) qpa_nil))))
   (qpss_cons (qps_set (i:=6) sc_drawn.nd rfl (Or.inl rfl) (qpe_callD D_right_columns (hr.mono (by decide)) (by rfl) (qpa_Subscript (qpe_ix ix_tup (qpv 2) qpe_int (fun _ _=>rfl)) (qpa_Name (qpv 3) qpa_nil))))
   (qpss_cons (qps_setC (i:=7) sc_drawn.nd rfl (Or.inl rfl) (own:=["line"]) (ns:=["most_left","most_right"]) (caps:=[3,4]) rfl ⟨rfl,by decide +kernel,by decide +kernel,by decide +kernel⟩ (.cons rfl rfl (.inl rfl) (.cons rfl rfl (.inl rfl) .nil)) (qpi_range1 (by rfl) B.range (qpa_BinOp (qpe_op op_add (qpe_op op_mul qpe_int (qpv 1)) qpe_int) qpa_nil)) (fun C s H fp pn=>(qpg_name (i:=0) (show List.Nodup ((["line"]:List Str)++(["most_left","most_right"]:List Str)) by decide +kernel) rfl (Or.inl rfl))) (fun C s H fp pn=>qpf_nil) (fun C s H fp pn=>(qpe_op op_rep (qpe_lst (qpa_Name (qpe_globS (by rfl) B.WALL) qpa_nil)) (qpe_op op_add (qpe_op op_mul qpe_int (qpe_op op_add (qpv 1) (qpv 2))) qpe_int))))
   (qpss_cons (qps_expr (qpe_callD D_carve_bows (hr.mono (by decide)) (by rfl) (qpa_Name (qpv 7) (qpa_Subscript (qpe_ix ix_tup (qpv 2) qpe_int (fun _ _=>rfl)) (qpa_Name (qpv 5) qpa_nil)))))
   (qpss_cons (qps_expr (qpe_callD D_carve_bows (hr.mono (by decide)) (by rfl) (qpa_Name (qpv 7) (qpa_Subscript (qpe_ix ix_tup (qpv 2) qpe_int (fun _ _=>rfl)) (qpa_Name (qpv 6) qpa_nil)))))
   (qpss_cons (qps_expr (qpe_callD D_carve_rings (hr.mono (by decide)) (by rfl) (qpa_Name (qpv 7) (qpa_Name (qpv 1) (qpa_Name (qpv 5) (qpa_Name (qpv 6) qpa_nil))))))
   (qpss_cons (qps_expr (qpe_callD D_mark (hr.mono (by decide)) (by rfl) (qpa_Subscript (qpe_ix ix_list (qpv 7) (qpe_callD D_line_of (hr.mono (by decide)) (by rfl) (qpa_Constant qpe_int qpa_nil)) (fun _ _=>rfl)) (qpa_Name (qpe_globS (by rfl) B.MOUTH) qpa_nil))))
   (qpss_cons (qps_expr (qpe_callD D_mark (hr.mono (by decide)) (by rfl) (qpa_Subscript (qpe_ix ix_list (qpv 7) (qpe_callD D_line_of (hr.mono (by decide)) (by rfl) (qpa_BinOp (qpe_op op_add (qpv 1) qpe_int) qpa_nil)) (fun _ _=>rfl)) (qpa_Name (qpe_globS (by rfl) B.MIDDLE) qpa_nil))))
   (qpss_one (qps_ret (qpe_bm PySem.F.plainAttrs_str PySem.F.slot_str_join PySem.F.type_str_join mt_join qpe_str (qpa_ListComp (qpe_comp (own:=["line"]) (ns:=[]) (caps:=[]) rfl ⟨rfl,by decide +kernel,by decide +kernel,by decide +kernel⟩ .nil (qpi_list (qpv 7)) (fun C s H fp pn=>(qpg_name (i:=0) (show List.Nodup ((["line"]:List Str)++([]:List Str)) by decide +kernel) rfl (Or.inl rfl))) (fun C s H fp pn=>qpf_nil) (fun C s H fp pn=>(qbmK (K:=K) rfl (qpe_bm PySem.F.plainAttrs_str PySem.F.slot_str_join PySem.F.type_str_join (mt_join' (K:=K) rfl) qpe_str (qpa_Name (qpv 0) qpa_nil))))) qpa_nil)))))))))))))))))),?_⟩
  walk_at "wp"
  refine⟨m,o,b,ns,rfl,hm,O,nc,fun H1 s1=>?_⟩
  have hm1:=hm.same s1
  walk_at "wp"
  refine⟨_,_,SqT.of hm1.1,rfl,o,_,rfl,.inr (SqT.of hm1.2),m,o,b,ns,rfl,hm1,O,fun t l r L R H2 nt nl nr s2 BO=>?_⟩
  rw [List.length_map]
  have nlen:=O.len
  have BL:=BO.isL.bws O
  have BR:=BO.isR.bws O
  have mL21:=BO.isL.mx O
  have mR21:=BO.isR.mx O
  refine⟨t,_,0,_,rfl,rfl,SqT.of BO.tup,rfl,l,L,rfl,BO.left,BL,fun H3 s3=>?_⟩
  refine⟨t,_,1,_,rfl,rfl,SqT.of (s3 _ _ BO.tup),rfl,r,R,rfl,BO.right.same s3,BR,fun H4 s4=>?_⟩
  have s34:=s3.trans s4
  refine⟨t,_,0,_,rfl,rfl,SqT.of (s34 _ _ BO.tup),rfl,l,L,mxH L,rfl,BO.left.same s34,BL,Nat.le_refl _,fun dl kl H5 ndl s5 hdl cal=>?_⟩
  have s35:=s34.trans s5
  refine⟨t,_,1,_,rfl,rfl,SqT.of (s35 _ _ BO.tup),rfl,r,R,mxH L,rfl,BO.right.same s35,BR,fun dr kr H6 ndr s6 hdr car=>?_⟩
  have s36:=s35.trans s6
  have hdl6:=s6 _ _ hdl
  refine⟨.inl ⟨by decide,by decide⟩,by omega,by omega,?_⟩
  rw [show (2 * ((ns.length:Nat):Int)+5).toNat=2 * ns.length+5 by omega]
  have wall:V.str (Str.ofString "#")=sg1 35:=by unfold sg1;rw [show Str.ofString "#"=(⟨#[35]⟩:Str) by decide +kernel]
  rw [wall]
  have w100:widG L R<=100:=by unfold widG;omega
  refine comp_range (n:=2 * ns.length+5) (fun i ys σ H'=>Same H6 H'/\(∃ as:List Addr,ys=as.map V.ref/\as.length=i/\as.Nodup/\(∀ a∈as,H6 a=none)/\∀ a∈as,H' a=some (.lst (rwV (widG L R) fun _=>35)))/\∃ x0,σ=[x0,some (.int (mxH L:Nat)),some (.int (mxH R:Nat))]) ⟨Same.refl _,⟨[],rfl,rfl,List.nodup_nil,(fun a h=>nomatch h),fun a h=>nomatch h⟩,_,rfl⟩ ?_ (Nat.le_of_lt (small1000 (by omega))) ?_ ?_
  ·rintro i ys σ H' ⟨_,⟨as,rfl,e,_⟩,_⟩
   rw [List.length_map,e];exact Nat.le_refl _
  ·rintro i ys σ H' N hi ⟨s7,⟨as,rfl,ea,nd,fr,rows⟩,x0,rfl⟩ hN
   walk_at "wp"
   refine⟨by decide,fun p np=>⟨.inl ⟨by decide,by decide⟩,p,_,_,rfl,rfl,upd_same,by omega,by omega,by show 1 * _<=sizeLine;rw [sizeLine_eq];omega,fun p2 n2=>?_⟩⟩
   have t1:=(Same.refl H').new (o:=.lst [sg1 35]) np
   have n2':=t1.free n2
   have t2:=(Same.refl _).new (o:=.lst (rwV (widG L R) fun _=>35)) n2
   have ew:(2 * (((mxH L:Nat):Int)+(mxH R:Nat))+1).toNat=widG L R:=by unfold widG;omega
   rw [ew,rep_rw]
   refine hN _ _ _ ⟨s7.trans (t1.trans t2),⟨as++[p2],by simp,by simp [ea],?_,fun a ha=>?_,fun a ha=>?_⟩,_,rfl⟩
   ·rw [List.nodup_append]
    refine⟨nd,by simp,fun a ha b hb e=>?_⟩
    have:b=p2:=by simpa using hb
    subst this e
    rw [rows a ha] at n2';cases n2'
   ·rcases List.mem_append.mp ha with h | h
    ·exact fr a h
    ·have:a=p2:=by simpa using h
     subst this
     exact s7.free n2'
   ·rcases List.mem_append.mp ha with h | h
    ·exact (t1.trans t2) _ _ (rows a h)
    ·have:a=p2:=by simpa using h
     subst this
     exact upd_same
  ·rintro ys σ H' g ⟨s7,⟨as,rfl,ea,nd,fr,rows⟩,_⟩ ng
   have s8:=(Same.refl H').new (o:=.lst (as.map V.ref)) ng
   have gr:GridAt (upd H' g (.lst (as.map V.ref))) g as (widG L R) fun _ _=>35:=⟨upd_same,nd,(fun h=>by rw [rows g h] at ng;cases ng),fun i a hi=>s8 _ _ (rows a (List.mem_of_getElem? hi))⟩
   have s68:=s7.trans s8
   generalize upd H' g (.lst (as.map V.ref))=H7 at gr s8 s68 ⊢
   have s38:=s36.trans s68
   have lA:l∉as:=fun h=>by have:=s36.free (fr l h);obtain⟨_,hh,_⟩:=BO.left;rw [hh] at this;cases this
   have rA:r∉as:=fun h=>by have:=s36.free (fr r h);obtain⟨_,hh,_⟩:=BO.right;rw [hh] at this;cases this
   have tA:t∉as:=fun h=>by have:=s36.free (fr t h);rw [BO.tup] at this;cases this
   have tupA:∀ {S:List Bw} {z:Addr},BowsAt H2 z S->∀ {H8:Hp},Keeps as H7 H8->z∉as->BowsAt H8 z S:=fun {S z} hz {H8} kp hn=>by
    obtain⟨zs,hh,pz⟩:=hz
    refine⟨zs,kp _ _ hn (s38 _ _ hh),Paired.mapP pz fun a p ta=>kp _ _ (gr.off (s38 _ _ ta) fun xs e=>nomatch e) (s38 _ _ ta)⟩
   have bdS:∀ {u:Bool} {S:List Bw},SideOf b ns u S->∀ p∈S,0<=p.1/\p.1<p.2/\2 * p.2+1<as.length:=fun {u S} hS p hp=>by
    obtain⟨j,hj,_,e⟩:=side_mem (hS.perm.mem_iff.mp hp)
    have h1:=O.step_in (i:=j) (by omega)
    have h2:=O.step_lt (i:=j) (by omega)
    subst e
    exact⟨h1.1,h2,by rw [ea];omega⟩
   refine⟨t,_,0,_,rfl,rfl,SqT.of (s38 _ _ BO.tup),rfl,g,l,dl,as,widG L R,_,L,cLf L,kl,rfl,gr,lA,tupA BO.left (Keeps.refl _ _) lA,s68 _ _ hdl6,cal,fun p hp=>⟨(bdS BO.isL p hp).1,(bdS BO.isL p hp).2.1,(bdS BO.isL p hp).2.2,cLf_lt BL.lt hp⟩,by omega,by omega,fun H8 k8 g8=>?_⟩
   refine⟨t,_,1,_,rfl,rfl,SqT.of (k8 _ _ tA (s38 _ _ BO.tup)),rfl,g,r,dr,as,widG L R,_,R,cRf L R,kr,rfl,g8,rA,tupA BO.right k8 rA,k8 _ _ (gr.off (s68 _ _ hdr) fun xs e=>nomatch e) (s68 _ _ hdr),car,fun p hp=>⟨(bdS BO.isR p hp).1,(bdS BO.isR p hp).2.1,(bdS BO.isR p hp).2.2,cRf_lt BR.lt hp⟩,by omega,by omega,fun H9 k9 g9=>?_⟩
   have k79:=k8.trans k9
   have ringc:∀ rr:Nat,1<=rr->rr<=ns.length->valV kl (.inl (rr:Int):Key)=some (.int (kLf L rr:Nat))/\valV kr (.inl (rr:Int):Key)=some (.int (kRf L R rr:Nat))/\kLf L rr<widG L R/\kRf L R rr<widG L R:=fun rr h1 h2=>by
    obtain⟨p,hp,ep⟩:=BO.isL.has O h1 h2
    obtain⟨q',hq,eq⟩:=BO.isR.has O h1 h2
    unfold kLf kRf
    rw [bowR_of BL hp ep,bowR_of BR hq eq]
    refine⟨?_,?_,cLf_lt BL.lt hp,cRf_lt BR.lt hq⟩
    ·rcases ep with e | e
     ·rw [<-e];exact (cal p hp).1
     ·rw [<-e];exact (cal p hp).2
    ·rcases eq with e | e
     ·rw [<-e];exact (car q' hq).1
     ·rw [<-e];exact (car q' hq).2
   refine⟨g,dl,dr,as,widG L R,_,kl,kr,ns.length,kLf L,kRf L R,rfl,g9,k79 _ _ (gr.off (s68 _ _ hdl6) fun xs e=>nomatch e) (s68 _ _ hdl6),k79 _ _ (gr.off (s68 _ _ hdr) fun xs e=>nomatch e) (s68 _ _ hdr),ringc,by omega,by omega,by omega,fun H10 k10 g10=>?_⟩
   have g10':GridAt H10 g as (widG L R) (fun i x=>if openG ns.length L R i x then 46 else 35):=g10.congr fun i x _ _=>by
    unfold opn openG
    cases opB L (cLf L) i x<;>cases opB R (cRf L R) i x<;>cases opG ns.length (kLf L) (kRf L R) i x<;>rfl
   have k710:=k79.trans k10
   obtain⟨x0,hx0,op0⟩:=open_first O BO.isL BO.isR
   obtain⟨x1,hx1,op1⟩:=open_last O BO.isL BO.isR
   have l1:1<as.length:=by omega
   have l2:2 * ns.length+3<as.length:=by omega
   have a1:as[1]? = some as[1]:=List.getElem?_eq_getElem l1
   have a2:as[2 * ns.length+3]? = some as[2 * ns.length+3]:=List.getElem?_eq_getElem l2
   have vv:Str.ofString "v"=(⟨#[118]⟩:Str):=by decide +kernel
   have vm:Str.ofString "@"=(⟨#[64]⟩:Str):=by decide +kernel
   refine⟨0,rfl,g,_,1,.ref as[1],rfl,rfl,SqL.of g10'.top,by exact atI_nat (j:=1) (by rw [List.getElem?_map,a1];rfl),as[1],widG L R,_,x0,118,by rw [vv],g10'.row 1 _ a1,hx0,by rw [op0,decide_eq_true rfl];rfl,fun x hx=>by rw [op0,decide_eq_false (by omega)];decide,by omega,?_⟩
   have g11:=g10'.set (x:=x0) (c:=118) a1
   have k711:=k710.trans (Keeps.upd (o:=.lst ((rwV (widG L R) fun x=>if openG ns.length L R 1 x then 46 else 35).set x0 (sg1 118))) (List.mem_of_getElem? a1))
   generalize upd H10 as[1] (.lst ((rwV (widG L R) fun x=>if openG ns.length L R 1 x then 46 else 35).set x0 (sg1 118)))=H11 at g11 k711 ⊢
   refine⟨((ns.length:Nat):Int)+1,rfl,g,_,_,.ref as[2 * ns.length+3],rfl,rfl,SqL.of g11.top,by rw [show 2 * (((ns.length:Nat):Int)+1)+1=((2 * ns.length+3:Nat):Int) by omega];exact atI_nat (by rw [List.getElem?_map,a2];rfl),as[2 * ns.length+3],widG L R,_,x1,64,by rw [vm],g11.row _ _ a2,hx1,?_,fun x hx=>?_,by omega,?_⟩
   ·have:¬ (2 * ns.length+3=1/\x1=x0):=by omega
    rw [if_neg this,op1,decide_eq_true rfl];rfl
   ·have:¬ (2 * ns.length+3=1/\x=x0):=by omega
    rw [if_neg this,op1,decide_eq_false (by omega)];decide
   have g12:=g11.set (x:=x1) (c:=64) a2
   have k712:=k711.trans (Keeps.upd (o:=.lst ((rwV (widG L R) fun x=>if 2 * ns.length+3=1/\x=x0 then 118 else if openG ns.length L R (2 * ns.length+3) x then 46 else 35).set x1 (sg1 64))) (List.mem_of_getElem? a2))
   generalize upd H11 as[2 * ns.length+3] (.lst ((rwV (widG L R) fun x=>if 2 * ns.length+3=1/\x=x0 then 118 else if openG ns.length L R (2 * ns.length+3) x then 46 else 35).set x1 (sg1 64)))=H12 at g12 k712 ⊢
   have g13:GridAt H12 g as (widG L R) (signG ns.length L R):=g12.congr fun i x _ _=>sign_of op0 op1 i x
   refine⟨rfl,g,rfl,⟨_,SqL.of g13.top⟩,?_⟩
   have fin12:Same H H12:=fun z o hz=>by
    have hz7:=((s1.trans s2).trans s38) _ _ hz
    refine k712 z o (fun hm=>?_) hz7
    have:=((s1.trans s2).trans s36).free (fr z hm)
    rw [hz] at this;cases this
   refine comp_list (xs:=as.map V.ref) (fun i ys σ H'=>H'=H12/\ys=((List.range i).map fun j=>V.str (tx (rowG ns.length L R j)))/\∃ x,σ=[x]) ⟨rfl,rfl,_,rfl⟩ ?_ (by rw [List.length_map];exact Nat.le_of_lt (small1000 (by omega))) ?_ ?_
   ·rintro i ys σ H' ⟨rfl,rfl,_⟩
    exact⟨SqL.of g13.top,by simp⟩
   ·rintro i x ys σ H' N hx ⟨rfl,rfl,x',rfl⟩ hN
    obtain⟨a,ha,rfl⟩:=got_map hx
    have hrow:=g13.row i a ha
    rw [rwV_strs] at hrow
    walk_at "wp"
    refine⟨rfl,_,a,_,rfl,rfl,SqL.of hrow,tx_joinOk (by simp;omega),?_⟩
    rw [tx_join]
    refine hN _ _ _ ⟨rfl,?_,_,rfl⟩
    rw [List.range_succ,List.map_append];rfl
   ·rintro ys σ H' p ⟨rfl,rfl,_⟩ np
    have s13:=(Same.refl H').new (o:=.lst ((List.range (as.map V.ref).length).map fun j=>V.str (tx (rowG ns.length L R j)))) np
    have el:(as.map V.ref).length=2 * ns.length+5:=by rw [List.length_map];exact ea
    rw [el]
    refine⟨_,p,((List.range (2 * ns.length+5)).map (rowG ns.length L R)).map tx,rfl,rfl,SqL.of ?_,join_txOk (by simp;omega) (fun r hr=>?_),?_⟩
    ·rw [upd_same,List.map_map,List.map_map];rfl
    ·obtain⟨j,_,rfl⟩:=List.mem_map.mp hr
     unfold rowG;rw [List.length_map,List.length_range];omega
    ·rw [join_tx]
     rw [el] at s13
     exact q L R _ BO.isL BO.isR (fin12.trans s13)
theorem ok_mix (E:Fn K mg "_law_mix" s_mix ["_law_seed","_law_k"]):Def P w K mg base 1 "_law_mix" s_mix ["_law_seed","_law_k"] spMix:=E.mk' fun f fd F=>by
 refine F.okS sc_mix (fun vs H Q E h=>?_) (fun cdv A outer s H vs Q E hr h=>?_)
 ·obtain⟨a,k,rfl,_⟩:=h
  rfl
 ·obtain⟨a,k,rfl,h0,h1,q⟩:=h
  refine⟨[some (.int a),some (.int k),none],_,rfl,(L2.QSs.h (qpss_cons (qps_set (i:=2) sc_mix.nd rfl (Or.inl rfl) (qpe_op op_mod (qpe_op op_mul (qpe_op op_add (qpe_op op_add (qpe_op op_add (qpe_op op_mod (qpv 0) (qpe_op op_pow qpe_int qpe_int)) (qpe_op op_mul qpe_int (qpv 1))) (qpe_op op_mul (qpe_op op_mul (qpv 1) (qpv 1)) (qpv 1))) qpe_int) qpe_int) qpe_int))
   (qpss_one (qps_ret (qpe_op op_mod (qpe_op op_mul (qpv 2) qpe_int) qpe_int))))),?_⟩
  walk_at "wp"
  have hkk:0<=k * k/\k * k<=1000000:=⟨Int.mul_nonneg h0 h0,by have:=Int.mul_le_mul h1 h1 h0 (by decide);omega⟩
  refine⟨⟨by decide,by decide,by decide⟩,by decide,.inl ⟨by decide,by decide⟩,.inl ⟨by omega,by omega⟩,.inl ⟨by omega,by omega⟩,.inr ⟨by decide,by decide⟩,by decide,.inr ⟨by decide,by decide⟩,by decide,q⟩
theorem ok_cell_at (B:Blt mg) (E:Fn K mg "_law_cell_at" s_cell_at ["_law_script","_law_k"]):Def P w K mg base 1 "_law_cell_at" s_cell_at ["_law_script","_law_k"] (spCell K):=E.mk' fun f fd F=>by
 refine F.okS sc_cell_at (fun vs H Q E h=>?_) (fun cdv A outer s H vs Q E hr h=>?_)
 ·obtain⟨a,ns,k,rfl,_⟩:=h
  rfl
 ·obtain⟨a,ns,k,rfl,hS,q⟩:=h
  refine⟨[some (.ref a),some (.int k)],_,rfl,(L2.QSs.h (qpss_cons (qps_if (qpt_cmpR op_lt (qpv 1) (qpe_callB call_len_seq (by rfl) B.len PySem.boot_len (qpa_Name (qpv 0) qpa_nil)) (nomark _))
   (qpss_one (qps_ret (qpe_ix ix_list (qpv 0) (qpv 1) (fun _ _=>rfl))))
   qpss_nil)
   (qpss_one (qps_ret qpe_int)))),?_⟩
  walk_at "wp"
  refine⟨_,.inl hS,?_⟩
  rw [List.length_map]
  refine ite2 (fun h=>?_) (fun h=>?_)
  ·have hk:k<ns.length:=by omega
   refine⟨_,.int (ns.getD k 0),hS,atI_nat ?_,q⟩
   simp [List.getElem?_map,hk]
  ·have hk:ns.length<=k:=by omega
   have e:ns.getD k 0=0:=by simp [List.getD,List.getElem?_eq_none hk]
   rw [e] at q
   exact q
theorem ok_digits (B:Blt mg) (E:Fn K mg "_law_digits" s_digits ["_law_cell","_law_base"]) (D_mix:Def P w K mg base 1 "_law_mix" s_mix ["_law_seed","_law_k"] spMix):Def P w K mg base 2 "_law_digits" s_digits ["_law_cell","_law_base"] spDigits:=E.mk' fun f fd F=>by
 refine F.okS sc_digits (fun vs H Q E h=>?_) (fun cdv A outer s H vs Q E hr h=>?_)
 ·obtain⟨c,b,rfl,_⟩:=h
  rfl
 ·obtain⟨c,b,rfl,b0,b1,q⟩:=h
  refine⟨[some (.int c),some (.int b),none,none,none,none,none],_,rfl,(L2.QSs.h (qpss_cons (qps_set (i:=2) sc_digits.nd rfl (Or.inl rfl) (qpe_op op_mod (qpe_op op_fdiv (qpv 0) qpe_int) qpe_int))
   (qpss_cons (qps_set (i:=3) sc_digits.nd rfl (Or.inl rfl) (qpe_op op_fdiv (qpv 0) qpe_int))
   (qpss_cons (qps_set (i:=4) sc_digits.nd rfl (Or.inl rfl) (qpe_lst qpa_nil))
   (qpss_cons (qps_for PassesOwn.never rfl (qpi_range1 (by rfl) B.range (qpa_Name (qpv 2) qpa_nil)) (qpg_name (i:=5) sc_digits.nd rfl (Or.inl rfl))
   (qpss_cons (qps_set (i:=6) sc_digits.nd rfl (Or.inl rfl) (qpe_op op_mod (qpv 3) (qpv 1)))
    (qpss_cons (qps_if (QW.pt (qpw_or (qpt_cmpR op_eq (qpe_op op_mod (qpv 0) qpe_int) qpe_int (nomark _)) (qpw_or1 (qpt_cmpR op_eq (qpv 3) qpe_int (nomark _)))))
    (qpss_one (qps_set (i:=6) sc_digits.nd rfl (Or.inl rfl) (qpe_op op_mod (qpe_callD D_mix (hr.mono (by decide)) (by rfl) (qpa_Name (qpv 0) (qpa_Name (qpv 5) qpa_nil))) (qpv 1))))
    qpss_nil)
    (qpss_cons (qps_expr (qpe_bm PySem.F.plainAttrs_list PySem.F.slot_list_append PySem.F.type_list_append mt_append (qpv 4) (qpa_Name (qpv 6) qpa_nil)))
    (qpss_one (qps_set (i:=3) sc_digits.nd rfl (Or.inl rfl) (qpe_op op_fdiv (qpv 3) (qpv 1))))))))
   (qpss_one (qps_ret (qpv 4)))))))),?_⟩
  walk_at "wp"
  have m0:0<=c / 2 % 21:=Int.emod_nonneg _ (by decide)
  have m1:c / 2 % 21<21:=Int.emod_lt_of_pos _ (by decide)
  generalize c / 2 % 21=many at m0 m1 ⊢
  refine⟨⟨by decide,by decide⟩,by decide,⟨by decide,by decide⟩,Nat.zero_le _,fun l nl=>⟨by omega,by omega,?_⟩⟩
  refine for_range (n:=many.toNat) (fun i σ H2=>∃ (rest:Int) (ds:List Int) (x5 x6:Option V),σ=[some (.int c),some (.int b),some (.int many),some (.int rest),some (.ref l),x5,x6]/\Same H H2/\H2 l=some (.lst (ds.map V.int))/\ds.length=i)
   ⟨_,[],none,none,rfl,(Same.refl H).new nl,upd_same,rfl⟩ ?_ ?_
  ·rintro i σ H2 hi ⟨rest,ds,x5,x6,rfl,sm,hl,hlen⟩
   walk_at "wp"
   refine⟨by omega,by decide,?_⟩
   have fin:∀ y:Int,w_tyL (K:=K) hl=w_tyL hl:=fun _=>rfl
   refine ite2 (fun _=>⟨c,_,rfl,by omega,by omega,?_⟩) (fun _=>ite2 (fun _=>⟨c,_,rfl,by omega,by omega,?_⟩) (fun _=>?_))
   case' refine_1=>(walk_at "wp";refine⟨by omega,?_⟩)
   case' refine_2=>(walk_at "wp";refine⟨by omega,?_⟩)
   all_goals
    refine⟨w_tyL hl,_,hl,by rw [List.length_map];exact small1000 (by omega),⟨by omega,by omega⟩,_,ds++[_],_,_,rfl,sm.new nl,by rw [upd_same,List.map_append];rfl,by simp [hlen]⟩
  ·rintro σ H2 ⟨rest,ds,x5,x6,rfl,sm,hl,hlen⟩
   walk_at "wp"
   exact q l ds H2 nl sm hl (by omega)
theorem ok_need (E:Fn K mg "_law_need" s_need ["_law_many"]):Def P w K mg base 1 "_law_need" s_need ["_law_many"] spNeed:=E.mk' fun f fd F=>by
 refine F.okS sc_need (fun vs H Q E h=>?_) (fun cdv A outer s H vs Q E hr h=>?_)
 ·obtain⟨m,rfl,_⟩:=h
  rfl
 ·obtain⟨m,rfl,h0,h1,q⟩:=h
  refine⟨[some (.int m)],_,rfl,(L2.QSs.h (qpss_cons (qps_if (qpt_cmpR op_lt (qpv 0) qpe_int (nomark _))
   (qpss_one (qps_ret qpe_int))
   qpss_nil)
   (qpss_one (qps_ret (qpe_op op_sub (qpe_op op_fdiv (qpe_op op_mul qpe_int (qpe_op op_sub (qpv 0) qpe_int)) qpe_int) qpe_int))))),?_⟩
  walk_at "wp"
  unfold needZ at q
  refine ite2 (fun h=>?_) (fun h=>?_)
  ·rw [if_pos h] at q;exact q
  ·rw [if_neg h] at q
   exact⟨.inl ⟨by decide,by decide⟩,⟨by decide,by decide⟩,q⟩
theorem ok_can (B:Blt mg) (E:Fn K mg "_law_can" s_can ["_law_open_ends","_law_letter"]):Def P w K mg base 1 "_law_can" s_can ["_law_open_ends","_law_letter"] spCan:=E.mk' fun f fd F=>by
 refine F.okS sc_can (fun vs H Q E h=>?_) (fun cdv A outer s H vs Q E hr h=>?_)
 ·obtain⟨oe,fd,A',B',st,f,k,rfl,_⟩:=h
  rfl
 ·obtain⟨oe,fd,A',B',st,f,k,rfl,hk,G,q⟩:=h
  refine⟨[some (.ref oe),some (.str (ltr k)),none,none],_,rfl,(L2.QSs.h (qpss_cons (qps_set (i:=2) sc_can.nd rfl (Or.inl rfl) (qpe_ix ix_list (qpv 0) qpe_int (fun _ _=>rfl)))
   (qpss_cons (qps_set (i:=3) sc_can.nd rfl (Or.inl rfl) (qpe_ix ix_list (qpv 0) qpe_int (fun _ _=>rfl)))
   (qpss_cons (qps_if (qpt_cmpR op_eq (qpv 1) qpe_str (nomark _))
   (qpss_one (qps_ret (qpe_and (qpe_cmpR op_gt (qpe_callB call_len_seq (by rfl) B.len PySem.boot_len (qpa_Name (qpv 2) qpa_nil)) qpe_int (nomark _)) (qpe_and (qpe_cmpR op_gt (qpe_callB call_len_seq (by rfl) B.len PySem.boot_len (qpa_Name (qpv 3) qpa_nil)) qpe_int (nomark _)) (qpe_one (qpe_cmpR (op_neD (hu_64 hr)) (qpe_ix ix_seq (qpe_ix ix_list (qpv 2) (qpe_un un_neg qpe_int) (fun _ _=>rfl)) qpe_int (fun _ _=>rfl)) (qpe_ix ix_seq (qpe_ix ix_list (qpv 3) (qpe_un un_neg qpe_int) (fun _ _=>rfl)) qpe_int (fun _ _=>rfl)) (nomark _)))))))
   qpss_nil)
   (qpss_cons (qps_if (qpt_cmpR op_eq (qpv 1) qpe_str (nomark _))
   (qpss_one (qps_ret (qpe_cmpR op_gt (qpe_callB call_len_seq (by rfl) B.len PySem.boot_len (qpa_Name (qpv 3) qpa_nil)) qpe_int (nomark _))))
   qpss_nil)
   (qpss_one (qps_ret (qpe_or (qpe_cmpR op_eq (qpv 1) qpe_str (nomark _)) (qpe_one (qpe_cmpR op_gt (qpe_callB call_len_seq (by rfl) B.len PySem.boot_len (qpa_Name (qpv 2) qpa_nil)) qpe_int (nomark _))))))))))),?_⟩
  obtain⟨as,a1,a2⟩:=id (G.s false)
  obtain⟨bs,b1,b2⟩:=id (G.s true)
  have la:(as.map V.ref).length=(st false).length:=by rw [List.length_map];exact Paired.length a2
  have lb:(bs.map V.ref).length=(st true).length:=by rw [List.length_map];exact Paired.length b2
  have pos:∀ S:List Oe,decide (0<(S.length:Int))=decide (S≠[]):=fun S=>decide_eq_decide.mpr (by cases S with
   | nil=>simp
   | cons a b=>simp only [List.length_cons,ne_eq,reduceCtorEq,not_false_eq_true,iff_true];omega)
  walk_at "wp"
  refine⟨_,_,SqL.of G.oe_,rfl,_,_,SqL.of G.oe_,rfl,?_⟩
  have hd:=ltr_d k hk
  have hb:=ltr_b k hk
  have ha:=ltr_a k hk
  rw [decide_eq_decide] at hd hb ha
  simp only [hd,hb,ha]
  unfold canB at q
  by_cases k3:k=3
  ·rw [if_pos k3] at q ⊢
   refine⟨_,_,rfl,.inl (SqL.of a1),?_⟩
   rw [la]
   rcases snoc_or (st false) with e | ⟨S,o,l,e⟩
   ·rw [e] at q ⊢
    exact ifN (by simp) q
   ·refine ifY (by rw [e];simp only [List.length_append,List.length_singleton];omega) ⟨_,_,rfl,.inl (SqL.of b1),?_⟩
    rw [lb]
    rcases snoc_or (st true) with e' | ⟨S',o',l',e'⟩
    ·rw [e,e'] at q
     rw [e']
     exact ifN (by simp) (by simpa using q)
    ·refine ifY (by rw [e'];simp only [List.length_append,List.length_singleton];omega) ?_
     have s1:=G.s false
     have s2:=G.s true
     rw [e] at s1
     rw [e'] at s2
     obtain⟨cs,c,c1,c2,c3,_⟩:=bows_unsnoc s1
     obtain⟨ds,d,d1,d2,d3,_⟩:=bows_unsnoc s2
     refine⟨_,_,_,_,rfl,rfl,SqL.of c1,atI_last _ _,.inr (.inl ⟨c,_,_,_,rfl,rfl,SqT.of c3,rfl,?_⟩)⟩
     refine⟨_,_,_,_,rfl,rfl,SqL.of d1,atI_last _ _,.inr (.inl ⟨d,_,_,_,rfl,rfl,SqT.of d3,rfl,eqD_int ?_⟩)⟩
     rw [e,e',last_snoc,last_snoc] at q
     have e3:(decide (S++[(o,l)]≠[])&&(decide (S'++[(o',l')]≠[])&&decide (some l≠some l')))=!decide (l=l'):=by simp
     rw [e3] at q
     exact q
  ·rw [if_neg k3] at q ⊢
   by_cases k1:k=1
   ·rw [if_pos k1] at q ⊢
    refine⟨_,_,rfl,.inl (SqL.of b1),?_⟩
    rw [lb,pos];exact q
   ·rw [if_neg k1] at q ⊢
    by_cases k0:k=0
    ·rw [if_pos k0]
     rw [decide_eq_true k0] at q
     exact q
    ·rw [if_neg k0]
     rw [decide_eq_false k0,Bool.false_or] at q
     refine⟨_,_,rfl,.inl (SqL.of a1),?_⟩
     rw [la,pos];exact q
theorem ok_put (B:Blt mg) (E:Fn K mg "_law_put" s_put ["_law_open_ends","_law_found","_law_letter","_law_row"]):Def P w K mg base 1 "_law_put" s_put ["_law_open_ends","_law_found","_law_letter","_law_row"] spPut:=E.mk' fun f fd F=>by
 refine F.okS sc_put (fun vs H Q E h=>?_) (fun cdv A outer s H vs Q E hr h=>?_)
 ·obtain⟨oe,fd,A',B',st,f,st',f',k,r,rfl,_⟩:=h
  rfl
 ·obtain⟨oe,fd,A',B',st,f,st',f',k,r,rfl,G,hl,P',q⟩:=h
  refine⟨[some (.ref oe),some (.ref fd),some (.str (ltr k)),some (.int r),none,none,none,none,none,none],_,rfl,(L2.QSs.h (qpss_cons (qps_set (i:=4) sc_put.nd rfl (Or.inl rfl) (qpe_ix ix_list (qpv 0) qpe_int (fun _ _=>rfl)))
   (qpss_cons (qps_set (i:=5) sc_put.nd rfl (Or.inl rfl) (qpe_ix ix_list (qpv 0) qpe_int (fun _ _=>rfl)))
   (qpss_cons (qps_set (i:=6) sc_put.nd rfl (Or.inl rfl) (qpe_lst qpa_nil))
   (qpss_cut (qps_if (qpt_cmpR op_in_str (qpv 2) qpe_str (by with_unfolding_all rfl))
   (qpss_cons (qps_expr (qpe_bm PySem.F.plainAttrs_list PySem.F.slot_list_append PySem.F.type_list_append mt_append (qpv 6) (qpa_Call (qpe_bm0 PySem.F.plainAttrs_list PySem.F.slot_list_pop PySem.F.type_list_pop mt_pop (qpv 4)) qpa_nil)))
    (qpss_one (qps_expr (qpe_bm PySem.F.plainAttrs_list PySem.F.slot_list_append PySem.F.type_list_append mt_append (qpe_ix ix_list (qpv 1) qpe_int (fun _ _=>rfl)) (qpa_Tuple (qpe_tup (qpa_Subscript (qpe_ix ix_seq (qpe_ix ix_list (qpv 6) (qpe_un un_neg qpe_int) (fun _ _=>rfl)) qpe_int (fun _ _=>rfl)) (qpa_Name (qpv 3) qpa_nil))) qpa_nil)))))
   qpss_nil)
   (qpss_cut (qps_if (qpt_cmpR op_in_str (qpv 2) qpe_str (by with_unfolding_all rfl))
   (qpss_cons (qps_expr (qpe_bm PySem.F.plainAttrs_list PySem.F.slot_list_append PySem.F.type_list_append mt_append (qpv 6) (qpa_Call (qpe_bm0 PySem.F.plainAttrs_list PySem.F.slot_list_pop PySem.F.type_list_pop mt_pop (qpv 5)) qpa_nil)))
    (qpss_one (qps_expr (qpe_bm PySem.F.plainAttrs_list PySem.F.slot_list_append PySem.F.type_list_append mt_append (qpe_ix ix_list (qpv 1) qpe_int (fun _ _=>rfl)) (qpa_Tuple (qpe_tup (qpa_Subscript (qpe_ix ix_seq (qpe_ix ix_list (qpv 6) (qpe_un un_neg qpe_int) (fun _ _=>rfl)) qpe_int (fun _ _=>rfl)) (qpa_Name (qpv 3) qpa_nil))) qpa_nil)))))
   qpss_nil)
   (qpss_cons (qps_set (i:=7) sc_put.nd rfl (Or.inl rfl) (qpv 3))
   (qpss_cut (qps_if (qpt_cmpR op_gt (qpe_callB call_len_seq (by rfl) B.len PySem.boot_len (qpa_Name (qpv 6) qpa_nil)) qpe_int (nomark _))
   (qpss_one (qps_set (i:=7) sc_put.nd rfl (Or.inl rfl) (qpe_ix ix_seq (qpe_ix ix_list (qpv 6) qpe_int (fun _ _=>rfl)) qpe_int (fun _ _=>rfl))))
   qpss_nil)
   (qpss_cut (qps_if (qpt_cmpR op_in_str (qpv 2) qpe_str (by with_unfolding_all rfl))
   (qpss_one (qps_expr (qpe_bm PySem.F.plainAttrs_list PySem.F.slot_list_append PySem.F.type_list_append mt_append (qpv 4) (qpa_Tuple (qpe_tup (qpa_Name (qpv 3) (qpa_Name (qpv 7) qpa_nil))) qpa_nil))))
   qpss_nil)
   (qpss_cut (qps_if (qpt_cmpR op_in_str (qpv 2) qpe_str (by with_unfolding_all rfl))
   (qpss_one (qps_expr (qpe_bm PySem.F.plainAttrs_list PySem.F.slot_list_append PySem.F.type_list_append mt_append (qpv 5) (qpa_Tuple (qpe_tup (qpa_Name (qpv 3) (qpa_Name (qpv 7) qpa_nil))) qpa_nil))))
   qpss_nil)
   (qpss_one (qps_if (qpt_cmpR op_eq (qpv 2) qpe_str (nomark _))
   (qpss_one (qps_for PassesOwn.never rfl (qpi_list (qpe_lst (qpa_Name (qpv 4) (qpa_Name (qpv 5) qpa_nil)))) (qpg_name (i:=8) sc_put.nd rfl (Or.inl rfl))
    (qpss_one (qps_for PassesOwn.never rfl (qpi_range1 (by rfl) B.range (qpa_Call (qpe_callB call_len_seq (by rfl) B.len PySem.boot_len (qpa_Name (qpv 8) qpa_nil)) qpa_nil)) (qpg_name (i:=9) sc_put.nd rfl (Or.inl rfl))
     (qpss_one (qps_if (qpt_cmpR (op_eqD (hu_64 hr)) (qpe_ix ix_seq (qpe_ix ix_list (qpv 8) (qpv 9) (fun _ _=>rfl)) qpe_int (fun _ _=>rfl)) (qpe_ix ix_seq (qpe_ix ix_list (qpv 6) qpe_int (fun _ _=>rfl)) qpe_int (fun _ _=>rfl)) (nomark _))
      (qpss_one (qps_asg (qpe_tup (qpa_Subscript (qpe_ix ix_seq (qpe_ix ix_list (qpv 8) (qpv 9) (fun _ _=>rfl)) qpe_int (fun _ _=>rfl)) (qpa_Name (qpv 7) qpa_nil))) (qpg_sub (qpv 8) (qpv 9) set_list)))
      qpss_nil))))))
   qpss_nil)))))))))))),?_⟩
  walk_at "wp"
  refine⟨_,_,SqL.of G.oe_,rfl,_,_,SqL.of G.oe_,rfl,Nat.zero_le _,fun p np=>?_⟩
  have G0:=G.new (o:=.lst []) np
  have F0:Fr A' B' H (upd H p (.lst [])):=(Fr.refl _ _ _).new np
  have p0:upd H p (.lst []) p=some (.lst []):=upd_same
  have pn:∀ u,p≠A' u/\p≠B' u:=fun u=>by
   obtain⟨_,x,_⟩:=G.s u
   obtain⟨_,y,_⟩:=G.f_ u
   exact⟨(ne_of_none x np).symm,(ne_of_none y np).symm⟩
  generalize upd H p (.lst [])=H0 at G0 F0 p0 ⊢
  have fin:∀ H',Fr A' B' H H'->GS H' oe fd A' B' st' f'->Q .non H':=q
  have po:p≠oe/\p≠fd:=⟨(ne_of_none G.oe_ np).symm,(ne_of_none G.fd_ np).symm⟩
  cases P' with
  | a=>
   refine cut_intro (fun σ H'=>σ=[some (.ref oe),some (.ref fd),some (.str (ltr 0)),some (.int r),some (.ref (A' false)),some (.ref (A' true)),some (.ref p),none,none,none]/\H0=H') ?_ ?_
   ·walk_at "wp"
    rw [occ,in_cd.1]
    exact ifN (fun z=>nomatch z) ⟨trivial,trivial⟩
   rintro σ' H' ⟨rfl,rfl⟩
   refine cut_intro (fun σ H'=>σ=[some (.ref oe),some (.ref fd),some (.str (ltr 0)),some (.int r),some (.ref (A' false)),some (.ref (A' true)),some (.ref p),none,none,none]/\H0=H') ?_ ?_
   ·walk_at "wp"
    rw [occ,in_bd.1]
    exact ifN (fun z=>nomatch z) ⟨trivial,trivial⟩
   rintro σ' H' ⟨rfl,rfl⟩
   walk_at "wp"
   refine cut_intro (fun σ H'=>σ=[some (.ref oe),some (.ref fd),some (.str (ltr 0)),some (.int r),some (.ref (A' false)),some (.ref (A' true)),some (.ref p),some (.int r),none,none]/\H0=H') ?_ ?_
   ·walk_at "wp"
    exact⟨_,.inl (SqL.of p0),ifN (by simp) ⟨trivial,trivial⟩⟩
   rintro σ' H' ⟨rfl,rfl⟩
   refine cut_intro (fun σ H'=>σ=[some (.ref oe),some (.ref fd),some (.str (ltr 0)),some (.int r),some (.ref (A' false)),some (.ref (A' true)),some (.ref p),some (.int r),none,none]/\Fr A' B' H H'/\GS H' oe fd A' B' (fun v=>if v=false then st false++[((r:Int),(r:Int))] else st v) f) ?_ ?_
   ·walk_at "wp"
    rw [occ,in_ab.1]
    obtain⟨_,eA,_⟩:=G0.s false
    refine ifY rfl ⟨w_tyL eA,(by show 2<=sizeLine;decide),fun t nt=>?_⟩
    obtain⟨xs,e,lx,G9⟩:=(G0.new (o:=.tup [.int r,.int (r:Int)]) nt).push false (t:=t) (p:=((r:Int),(r:Int))) upd_same
    exact⟨xs,e,small1000 (by have:=(hl false).1;first | omega | (simp at lx;omega)),trivial,(F0.new nt).updA false,G9⟩
   rintro σ' H10 ⟨rfl,F10,G10⟩
   refine cut_intro (fun σ H'=>σ=[some (.ref oe),some (.ref fd),some (.str (ltr 0)),some (.int r),some (.ref (A' false)),some (.ref (A' true)),some (.ref p),some (.int r),none,none]/\Fr A' B' H H'/\GS H' oe fd A' B' (fun v=>if v=true then (fun v=>if v=false then st false++[((r:Int),(r:Int))] else st v) true++[((r:Int),(r:Int))] else (fun v=>if v=false then st false++[((r:Int),(r:Int))] else st v) v) f) ?_ ?_
   ·walk_at "wp"
    rw [occ,in_ac.1]
    obtain⟨_,eA,_⟩:=G10.s true
    refine ifY rfl ⟨w_tyL eA,(by show 2<=sizeLine;decide),fun t nt=>?_⟩
    obtain⟨xs,e,lx,G9⟩:=(G10.new (o:=.tup [.int r,.int (r:Int)]) nt).push true (t:=t) (p:=((r:Int),(r:Int))) upd_same
    exact⟨xs,e,small1000 (by have:=(hl true).1;first | omega | (simp at lx;omega)),trivial,(F10.new nt).updA true,G9⟩
   rintro σ' H20 ⟨rfl,F20,G20⟩
   walk_at "wp"
   refine ifN (fun z=>by have w:=ltr_d 0 (by decide);rw [decide_eq_decide] at w;exact absurd (w.mp z) (by decide)) (fin _ F20 ?_)
   refine GS.cg G20 (fun u=>?_) (fun u=>?_)
   ·cases u<;>simp
   ·cases u<;>simp
  | @b S o l h=>
   refine cut_intro (fun σ H'=>σ=[some (.ref oe),some (.ref fd),some (.str (ltr 1)),some (.int r),some (.ref (A' false)),some (.ref (A' true)),some (.ref p),none,none,none]/\H0=H') ?_ ?_
   ·walk_at "wp"
    rw [occ,in_cd.2.1]
    exact ifN (fun z=>nomatch z) ⟨trivial,trivial⟩
   rintro σ' H' ⟨rfl,rfl⟩
   refine cut_intro (fun σ H'=>∃ a1,σ=[some (.ref oe),some (.ref fd),some (.str (ltr 1)),some (.int r),some (.ref (A' false)),some (.ref (A' true)),some (.ref p),none,none,none]/\Fr A' B' H H'/\GS H' oe fd A' B' (fun v=>if v=true then S else st v) (fun v=>if v=true then f true++[(o,(r:Int))] else f v)/\H' p=some (.lst [.ref a1])/\tupAt H' a1 (o,l)) ?_ ?_
   ·walk_at "wp"
    rw [occ,in_bd.2.1]
    exact ifY rfl (pop_read (u:=true) (S:=S) (o:=o) (l:=l) (r:=r) F0 np G0 h p0 (by show 0<=10;decide) (hl true).2 pn po rfl fun H4 a F4 G4 p4 t4 old=>⟨a,by first | rfl | trivial,F4,G4,p4,t4⟩)
   rintro σ' H1 ⟨a1,rfl,F1,G1,p1,t1⟩
   walk_at "wp"
   refine cut_intro (fun σ H'=>σ=[some (.ref oe),some (.ref fd),some (.str (ltr 1)),some (.int r),some (.ref (A' false)),some (.ref (A' true)),some (.ref p),some (.int l),none,none]/\H1=H') ?_ ?_
   ·walk_at "wp"
    exact⟨_,.inl (SqL.of p1),ifY (by simp) ⟨_,_,SqL.of p1,rfl,.inr (.inl ⟨a1,_,_,_,rfl,rfl,SqT.of t1,rfl,by first | rfl | trivial,by first | rfl | trivial⟩)⟩⟩
   rintro σ' H' ⟨rfl,rfl⟩
   refine cut_intro (fun σ H'=>σ=[some (.ref oe),some (.ref fd),some (.str (ltr 1)),some (.int r),some (.ref (A' false)),some (.ref (A' true)),some (.ref p),some (.int l),none,none]/\Fr A' B' H H'/\GS H' oe fd A' B' (fun v=>if v=false then (fun v=>if v=true then S else st v) false++[((r:Int),l)] else (fun v=>if v=true then S else st v) v) (fun v=>if v=true then f true++[(o,(r:Int))] else f v)) ?_ ?_
   ·walk_at "wp"
    rw [occ,in_ab.2.1]
    obtain⟨_,eA,_⟩:=G1.s false
    refine ifY rfl ⟨w_tyL eA,(by show 2<=sizeLine;decide),fun t nt=>?_⟩
    obtain⟨xs,e,lx,G9⟩:=(G1.new (o:=.tup [.int r,.int l]) nt).push false (t:=t) (p:=((r:Int),l)) upd_same
    exact⟨xs,e,small1000 (by have:=(hl false).1;first | omega | (simp at lx;omega)),trivial,(F1.new nt).updA false,G9⟩
   rintro σ' H11 ⟨rfl,F11,G11⟩
   refine cut_intro (fun σ H'=>σ=[some (.ref oe),some (.ref fd),some (.str (ltr 1)),some (.int r),some (.ref (A' false)),some (.ref (A' true)),some (.ref p),some (.int l),none,none]/\H11=H') ?_ ?_
   ·walk_at "wp"
    rw [occ,in_ac.2.1]
    exact ifN (fun z=>nomatch z) ⟨trivial,trivial⟩
   rintro σ' H' ⟨rfl,rfl⟩
   walk_at "wp"
   refine ifN (fun z=>by have w:=ltr_d 1 (by decide);rw [decide_eq_decide] at w;exact absurd (w.mp z) (by decide)) (fin _ F11 ?_)
   refine GS.cg G11 (fun u=>?_) (fun u=>?_)
   ·cases u<;>simp
   ·cases u<;>simp
  | @c S o l h=>
   refine cut_intro (fun σ H'=>∃ a1,σ=[some (.ref oe),some (.ref fd),some (.str (ltr 2)),some (.int r),some (.ref (A' false)),some (.ref (A' true)),some (.ref p),none,none,none]/\Fr A' B' H H'/\GS H' oe fd A' B' (fun v=>if v=false then S else st v) (fun v=>if v=false then f false++[(o,(r:Int))] else f v)/\H' p=some (.lst [.ref a1])/\tupAt H' a1 (o,l)) ?_ ?_
   ·walk_at "wp"
    rw [occ,in_cd.2.2.1]
    exact ifY rfl (pop_read (u:=false) (S:=S) (o:=o) (l:=l) (r:=r) F0 np G0 h p0 (by show 0<=10;decide) (hl false).2 pn po rfl fun H4 a F4 G4 p4 t4 old=>⟨a,by first | rfl | trivial,F4,G4,p4,t4⟩)
   rintro σ' H1 ⟨a1,rfl,F1,G1,p1,t1⟩
   refine cut_intro (fun σ H'=>σ=[some (.ref oe),some (.ref fd),some (.str (ltr 2)),some (.int r),some (.ref (A' false)),some (.ref (A' true)),some (.ref p),none,none,none]/\H1=H') ?_ ?_
   ·walk_at "wp"
    rw [occ,in_bd.2.2.1]
    exact ifN (fun z=>nomatch z) ⟨trivial,trivial⟩
   rintro σ' H' ⟨rfl,rfl⟩
   walk_at "wp"
   refine cut_intro (fun σ H'=>σ=[some (.ref oe),some (.ref fd),some (.str (ltr 2)),some (.int r),some (.ref (A' false)),some (.ref (A' true)),some (.ref p),some (.int l),none,none]/\H1=H') ?_ ?_
   ·walk_at "wp"
    exact⟨_,.inl (SqL.of p1),ifY (by simp) ⟨_,_,SqL.of p1,rfl,.inr (.inl ⟨a1,_,_,_,rfl,rfl,SqT.of t1,rfl,by first | rfl | trivial,by first | rfl | trivial⟩)⟩⟩
   rintro σ' H' ⟨rfl,rfl⟩
   refine cut_intro (fun σ H'=>σ=[some (.ref oe),some (.ref fd),some (.str (ltr 2)),some (.int r),some (.ref (A' false)),some (.ref (A' true)),some (.ref p),some (.int l),none,none]/\H1=H') ?_ ?_
   ·walk_at "wp"
    rw [occ,in_ab.2.2.1]
    exact ifN (fun z=>nomatch z) ⟨trivial,trivial⟩
   rintro σ' H' ⟨rfl,rfl⟩
   refine cut_intro (fun σ H'=>σ=[some (.ref oe),some (.ref fd),some (.str (ltr 2)),some (.int r),some (.ref (A' false)),some (.ref (A' true)),some (.ref p),some (.int l),none,none]/\Fr A' B' H H'/\GS H' oe fd A' B' (fun v=>if v=true then (fun v=>if v=false then S else st v) true++[((r:Int),l)] else (fun v=>if v=false then S else st v) v) (fun v=>if v=false then f false++[(o,(r:Int))] else f v)) ?_ ?_
   ·walk_at "wp"
    rw [occ,in_ac.2.2.1]
    obtain⟨_,eA,_⟩:=G1.s true
    refine ifY rfl ⟨w_tyL eA,(by show 2<=sizeLine;decide),fun t nt=>?_⟩
    obtain⟨xs,e,lx,G9⟩:=(G1.new (o:=.tup [.int r,.int l]) nt).push true (t:=t) (p:=((r:Int),l)) upd_same
    exact⟨xs,e,small1000 (by have:=(hl true).1;first | omega | (simp at lx;omega)),trivial,(F1.new nt).updA true,G9⟩
   rintro σ' H11 ⟨rfl,F11,G11⟩
   walk_at "wp"
   refine ifN (fun z=>by have w:=ltr_d 2 (by decide);rw [decide_eq_decide] at w;exact absurd (w.mp z) (by decide)) (fin _ F11 ?_)
   refine GS.cg G11 (fun u=>?_) (fun u=>?_)
   ·cases u<;>simp
   ·cases u<;>simp
  | @d n' f2 o1 l1 o2 l2 h h' ne=>
   refine cut_intro (fun σ H'=>∃ a1,σ=[some (.ref oe),some (.ref fd),some (.str (ltr 3)),some (.int r),some (.ref (A' false)),some (.ref (A' true)),some (.ref p),none,none,none]/\Fr A' B' H H'/\GS H' oe fd A' B' (fun v=>if v=false then n' else st v) (fun v=>if v=false then f false++[(o1,(r:Int))] else f v)/\H' p=some (.lst [.ref a1])/\tupAt H' a1 (o1,l1)) ?_ ?_
   ·walk_at "wp"
    rw [occ,in_cd.2.2.2]
    exact ifY rfl (pop_read (u:=false) (S:=n') (o:=o1) (l:=l1) (r:=r) F0 np G0 h p0 (by show 0<=10;decide) (hl false).2 pn po rfl fun H4 a F4 G4 p4 t4 old=>⟨a,by first | rfl | trivial,F4,G4,p4,t4⟩)
   rintro σ' H1 ⟨a1,rfl,F1,G1,p1,t1⟩
   refine cut_intro (fun σ H'=>∃ a2,σ=[some (.ref oe),some (.ref fd),some (.str (ltr 3)),some (.int r),some (.ref (A' false)),some (.ref (A' true)),some (.ref p),none,none,none]/\Fr A' B' H H'/\GS H' oe fd A' B' (fun v=>if v=true then f2 else (fun v=>if v=false then n' else st v) v) (fun v=>if v=true then (fun v=>if v=false then f false++[(o1,(r:Int))] else f v) true++[(o2,(r:Int))] else (fun v=>if v=false then f false++[(o1,(r:Int))] else f v) v)/\H' p=some (.lst [.ref a1,.ref a2])/\tupAt H' a2 (o2,l2)/\tupAt H' a1 (o1,l1)) ?_ ?_
   ·walk_at "wp"
    rw [occ,in_bd.2.2.2]
    exact ifY rfl (pop_read (u:=true) (S:=f2) (o:=o2) (l:=l2) (r:=r) F1 np G1 (by simp only [Bool.true_eq_false,if_false];exact h') p1 (by show 1<=10;decide) (by simp only [Bool.true_eq_false,if_false];exact (hl true).2) pn po rfl fun H4 a F4 G4 p4 t4 old=>⟨a,by first | rfl | trivial,F4,G4,p4,t4,old _ _ t1⟩)
   rintro σ' H2 ⟨a2,rfl,F2,G2,p2,t2 ,t1'⟩
   walk_at "wp"
   refine cut_intro (fun σ H'=>σ=[some (.ref oe),some (.ref fd),some (.str (ltr 3)),some (.int r),some (.ref (A' false)),some (.ref (A' true)),some (.ref p),some (.int l1),none,none]/\H2=H') ?_ ?_
   ·walk_at "wp"
    exact⟨_,.inl (SqL.of p2),ifY (by simp) ⟨_,_,SqL.of p2,rfl,.inr (.inl ⟨a1,_,_,_,rfl,rfl,SqT.of t1',rfl,by first | rfl | trivial,by first | rfl | trivial⟩)⟩⟩
   rintro σ' H' ⟨rfl,rfl⟩
   refine cut_intro (fun σ H'=>σ=[some (.ref oe),some (.ref fd),some (.str (ltr 3)),some (.int r),some (.ref (A' false)),some (.ref (A' true)),some (.ref p),some (.int l1),none,none]/\H2=H') ?_ ?_
   ·walk_at "wp"
    rw [occ,in_ab.2.2.2]
    exact ifN (fun z=>nomatch z) ⟨trivial,trivial⟩
   rintro σ' H' ⟨rfl,rfl⟩
   refine cut_intro (fun σ H'=>σ=[some (.ref oe),some (.ref fd),some (.str (ltr 3)),some (.int r),some (.ref (A' false)),some (.ref (A' true)),some (.ref p),some (.int l1),none,none]/\H2=H') ?_ ?_
   ·walk_at "wp"
    rw [occ,in_ac.2.2.2]
    exact ifN (fun z=>nomatch z) ⟨trivial,trivial⟩
   rintro σ' H' ⟨rfl,rfl⟩
   walk_at "wp"
   have w3:ltr 3=Str.ofString "d":=rfl
   refine ifY w3 ⟨(by show 2<=sizeLine;decide),fun p9 n9=>?_⟩
   have G3:=G2.new (o:=.lst [.ref (A' false),.ref (A' true)]) n9
   have F3:=F2.new (o:=.lst [.ref (A' false),.ref (A' true)]) n9
   have s3:=(Same.refl H2).new (o:=.lst [.ref (A' false),.ref (A' true)]) n9
   have q3:=s3 _ _ p2
   have b3:=t2.same s3
   have h9:upd H2 p9 (.lst [.ref (A' false),.ref (A' true)]) p9=some (.lst [.ref (A' false),.ref (A' true)]):=upd_same
   have pn9:∀ u,p9≠A' u/\p9≠B' u:=fun u=>by
    obtain⟨_,x,_⟩:=G2.s u
    obtain⟨_,y,_⟩:=G2.f_ u
    exact⟨(ne_of_none x n9).symm,(ne_of_none y n9).symm⟩
   generalize upd H2 p9 (.lst [.ref (A' false),.ref (A' true)])=H3 at G3 F3 q3 b3 h9 ⊢
   clear s3
   generalize hX:(fun u:Bool=>if u=true then f2 else n')=X
   have G3:GS H3 oe fd A' B' X (fun u=>f u++[(if u then o2 else o1,(r:Int))]):=G3.cg (fun u=>by subst hX;cases u<;>simp) (fun u=>by cases u<;>simp)
   have hXl:∀ u,(X u).length<=100:=fun u=>by
    have a1:=(hl false).1
    have a2:=(hl true).1
    rw [h] at a1
    rw [h'] at a2
    simp at a1 a2
    subst hX
    cases u<;>simp<;>omega
   have others:∀ u (ys:List V) H',(∀ v:V,v∈ys->True)->H' p9=some (.lst [.ref (A' false),.ref (A' true)])->upd H' (A' u) (.lst ys) p9=some (.lst [.ref (A' false),.ref (A' true)]):=fun u ys H' _ e=>by rw [upd_ne (pn9 u).1];exact e
   refine⟨⟨_,SqL.of h9⟩,for_list (xs:=[.ref (A' false),.ref (A' true)]) (fun i σ H'=>∃ x8 x9:Option V,σ=[some (.ref oe),some (.ref fd),some (.str (ltr 3)),some (.int r),some (.ref (A' false)),some (.ref (A' true)),some (.ref p),some (.int l1),x8,x9]/\Fr A' B' H H'/\H' p9=some (.lst [.ref (A' false),.ref (A' true)])/\H' p=some (.lst [.ref a1,.ref a2])/\tupAt H' a2 (o2,l2)/\GS H' oe fd A' B' (fun u=>if (if u then 2 else 1)<=i then (X u).map (relab l2 l1) else X u) (fun u=>f u++[(if u then o2 else o1,(r:Int))]))
    ⟨none,none,rfl,F3,h9,q3,b3,G3.cg (fun u=>by cases u<;>simp) fun _=>rfl⟩ (fun i σ H' _ ⟨_,_,_,_,e,_⟩=>SqL.of e) ?_ ?_⟩
   ·rintro i x σ H4 hx ⟨x8,x9,rfl,F4,h94,q4,b4,G4⟩
    obtain⟨u,rfl,hu⟩:∃ u:Bool,x=.ref (A' u)/\i+1=(if u then 2 else 1):=by
     match i,hx with
     | 0,hx=>exact⟨false,by simpa using hx.symm,rfl⟩
     | 1,hx=>exact⟨true,by simpa using hx.symm,rfl⟩
     | i+2,hx=>simp at hx
    have eu:(fun u=>if (if u then 2 else 1)<=i then (X u).map (relab l2 l1) else X u) u=X u:=by simp only;rw [if_neg (by omega)]
    walk_at "wp"
    obtain⟨as,a1',a2'⟩:=id (G4.s u)
    have lu:(as.map V.ref).length=(X u).length:=by rw [List.length_map,<-eu];exact Paired.length a2'
    refine⟨_,.inl (SqL.of a1'),by have:=hXl u;omega,by have:=hXl u;omega,?_⟩
    have en:(((as.map V.ref).length:Int)).toNat=(X u).length:=by omega
    rw [en]
    refine for_range (n:=(X u).length) (fun k σ H'=>∃ x9:Option V,σ=[some (.ref oe),some (.ref fd),some (.str (ltr 3)),some (.int r),some (.ref (A' false)),some (.ref (A' true)),some (.ref p),some (.int l1),some (.ref (A' u)),x9]/\Fr A' B' H H'/\H' p9=some (.lst [.ref (A' false),.ref (A' true)])/\H' p=some (.lst [.ref a1,.ref a2])/\tupAt H' a2 (o2,l2)/\GS H' oe fd A' B' (fun v=>if v=u then ((X u).take k).map (relab l2 l1)++(X u).drop k else if (if v then 2 else 1)<=i then (X v).map (relab l2 l1) else X v) (fun u=>f u++[(if u then o2 else o1,(r:Int))]))
     ⟨x9,rfl,F4,h94,q4,b4,G4.cg (fun v=>by
      by_cases z:v=u
      ·subst z
       refine Eq.trans eu ?_
       rw [if_pos rfl];simp
      ·rw [if_neg z]) fun _=>rfl⟩ ?_ ?_
    ·rintro k σ H5 hk ⟨y9,rfl,F5,h95,q5,b5,G5⟩
     obtain⟨e,he⟩:∃ e,(X u)[k]? = some e:=⟨_,List.getElem?_eq_getElem hk⟩
     obtain⟨r1,r2⟩:=relab_at (X u) (relab l2 l1) he
     obtain⟨bs,b,c1,c2,c3,c4⟩:=G5.get u (i:=k) (e:=e) (by rw [if_pos rfl];exact r1)
     walk_at "wp"
     refine⟨_,_,SqL.of c1,by rw [Int.zero_add];exact atI_nat c2,.inr (.inl ⟨b,_,_,_,rfl,rfl,SqT.of c3,rfl,?_⟩)⟩
     refine⟨_,_,SqL.of q5,rfl,.inr (.inl ⟨a2,_,_,_,rfl,rfl,SqT.of b5,rfl,eqD_int ?_⟩)⟩
     simp only [Bool.false_eq_true,if_false]
     refine⟨_,rfl,?_⟩
     simp only [decide_eq_true_eq]
     refine ite2 (fun z=>?_) (fun z=>?_)
     ·refine⟨_,_,SqL.of c1,by rw [Int.zero_add];exact atI_nat c2,.inr (.inl ⟨b,_,_,_,rfl,rfl,SqT.of c3,rfl,?_⟩)⟩
      refine⟨(by show 2<=sizeLine;decide),fun t nt=>?_⟩
      have s6:=(Same.refl H5).new (o:=.tup [.int e.1,.int l1]) nt
      have G6:=G5.same s6
      have c16:=s6 _ _ c1
      refine⟨A' u,_,_,k,rfl,rfl,c16,by rw [Int.zero_add];exact ixN_nat (List.getElem?_eq_some_iff.mp c2).1,?_⟩
      have G7:=G6.set u k (Paired.mapP c4 fun a q z=>z.same s6) (t:=t) (q:=(e.1,l1)) upd_same
      refine⟨_,rfl,(F5.new nt).updA u,by rw [upd_ne (pn9 u).1];exact s6 _ _ h95,by rw [upd_ne (pn u).1];exact s6 _ _ q5,tup_upd c16 (b5.same s6),G7.cg (fun v=>?_) fun _=>rfl⟩
      by_cases zv:v=u
      ·subst zv
       simp only [if_true]
       have er:relab l2 l1 e=(e.1,l1):=by unfold relab;rw [if_pos z]
       rw [er] at r2
       exact r2
      ·simp only [zv,if_false]
     ·refine⟨_,rfl,F5,h95,q5,b5,G5.cg (fun v=>?_) fun _=>rfl⟩
      by_cases zv:v=u
      ·subst zv
       simp only [if_true]
       have er:relab l2 l1 e=e:=by unfold relab;rw [if_neg z]
       rw [er] at r2
       rw [<-r2]
       obtain⟨w1,w2⟩:=List.getElem?_eq_some_iff.mp r1
       conv=>lhs;rw [<-List.set_getElem_self (as:=((X v).take k).map (relab l2 l1)++(X v).drop k) (i:=k) w1,w2]
      ·simp only [zv,if_false]
    ·rintro σ H5 ⟨y9,rfl,F5,h95,q5,b5,G5⟩
     refine⟨_,_,rfl,F5,h95,q5,b5,G5.cg (fun v=>?_) fun _=>rfl⟩
     by_cases zv:v=u
     ·subst zv
      rw [if_pos rfl,if_pos (by omega)]
      simp
     ·rw [if_neg zv]
      have:((if v then 2 else 1)<=i)=((if v then 2 else 1)<=i+1):=by
       revert hu zv
       cases u<;>cases v<;>simp<;>omega
      simp only [this]
   ·rintro σ H4 ⟨x8,x9,rfl,F4,_,_,_,G4⟩
    exact fin _ F4 (G4.cg (fun u=>by subst hX;cases u<;>simp) fun _=>rfl)
theorem ok_fitting (B:Blt mg) (E:Fn K mg "_law_fitting" s_fitting ["_law_open_ends","_law_row","_law_digit"]) (D_can:Def P w K mg base 1 "_law_can" s_can ["_law_open_ends","_law_letter"] spCan) (D_need:Def P w K mg base 1 "_law_need" s_need ["_law_many"] spNeed):Def P w K mg base 2 "_law_fitting" s_fitting ["_law_open_ends","_law_row","_law_digit"] spFitting:=E.mk' fun f fd F=>by
 refine F.okS sc_fitting (fun vs H Q E h=>?_) (fun cdv A outer s H vs Q E hr h=>?_)
 ·obtain⟨oe,fd,A',B',st,f,r,d,rfl,_⟩:=h
  rfl
 ·obtain⟨oe,fd,A',B',st,f,r,d,rfl,G,hl,hr0,q⟩:=h
  refine⟨[some (.ref oe),some (.int r),some (.int d),none,none,none,none],_,rfl,(L2.QSs.h (qpss_cons (qps_set (i:=3) sc_fitting.nd rfl (Or.inl rfl) (qpe_op op_add (qpe_callB call_len_seq (by rfl) B.len PySem.boot_len (qpa_Subscript (qpe_ix ix_list (qpv 0) qpe_int (fun _ _=>rfl)) qpa_nil)) (qpe_callB call_len_seq (by rfl) B.len PySem.boot_len (qpa_Subscript (qpe_ix ix_list (qpv 0) qpe_int (fun _ _=>rfl)) qpa_nil))))
   (qpss_cons (qps_set (i:=4) sc_fitting.nd rfl (Or.inl rfl) (qpe_lst qpa_nil))
   (qpss_cons (qps_for PassesOwn.never rfl (qpi_str (qpe_slice sl_str qpe_str (qpo_some (qpe_op op_mod (qpv 2) qpe_int)) (qpo_some (qpe_op op_add (qpe_op op_mod (qpv 2) qpe_int) qpe_int)))) (qpg_name (i:=5) sc_fitting.nd rfl (Or.inl rfl))
   (qpss_cons (qps_set (i:=6) sc_fitting.nd rfl (Or.inl rfl) (qpe_op op_sub (qpe_op op_add (qpv 3) (qpe_op op_mul qpe_int (qpe_callTy call_int1 (by rfl) B.int PyProof.Rows.boot_int (qpa_Compare (qpe_cmpR op_eq (qpv 5) qpe_str (nomark _)) qpa_nil)))) (qpe_op op_mul qpe_int (qpe_callTy call_int1 (by rfl) B.int PyProof.Rows.boot_int (qpa_Compare (qpe_cmpR op_eq (qpv 5) qpe_str (nomark _)) qpa_nil)))))
    (qpss_one (qps_if (QW.pt (qpw_and (qpt_val (qpe_callD D_can (hr.mono (by decide)) (by rfl) (qpa_Name (qpv 0) (qpa_Name (qpv 5) qpa_nil)))) (qpw_and1 (qpt_cmpR op_le (qpe_op op_add (qpv 1) (qpe_callD D_need (hr.mono (by decide)) (by rfl) (qpa_Name (qpv 6) qpa_nil))) qpe_int (nomark _)))))
    (qpss_one (qps_expr (qpe_bm PySem.F.plainAttrs_list PySem.F.slot_list_append PySem.F.type_list_append mt_append (qpv 4) (qpa_Name (qpv 5) qpa_nil))))
    qpss_nil))))
   (qpss_one (qps_ret (qpv 4))))))),?_⟩
  obtain⟨as,a1,a2⟩:=id (G.s false)
  obtain⟨bs,b1,b2⟩:=id (G.s true)
  have la:(as.map V.ref).length=(st false).length:=by rw [List.length_map];exact Paired.length a2
  have lb:(bs.map V.ref).length=(st true).length:=by rw [List.length_map];exact Paired.length b2
  walk_at "wp"
  refine⟨_,_,SqL.of G.oe_,rfl,_,_,rfl,.inl (SqL.of a1),_,_,SqL.of G.oe_,rfl,_,_,rfl,.inl (SqL.of b1),Nat.zero_le _,fun l nl=>⟨by decide,by decide,by decide,?_⟩⟩
  rw [la,lb]
  obtain⟨j,hj,ej⟩:∃ j:Nat,j<4/\d % 4=j:=⟨(d % 4).toNat,by omega,by omega⟩
  rw [ej]
  obtain⟨z1,z2,z3⟩:=abcd_sl j hj
  generalize Txt.slice (Str.ofString "abcdabcd") (some (j:Int)) (some ((j:Int)+4))=z at z1 z2 z3 ⊢
  have hm:((st false).length:Int)+(st true).length<=200:=by have:=hl false;have:=hl true;omega
  generalize hM:((st false).length:Int)+(st true).length=M at hm ⊢
  have hM0:0<=M:=by omega
  have q':∀ (ks:List Nat) (H':Hp),Same H H'->H' l=some (.lst (ks.map fun k=>V.str (ltr k)))->(∀ k∈ks,k<4/\canB st k=true/\(r:Int)+needZ (aftZ M k)<=20)->Q (.ref l) H':=fun ks H' s' h1 h2=>q l ks H' nl s' h1 (by rw [hM];exact h2)
  refine⟨z1,for_str (x:=z) (fun i σ H2=>∃ (ks:List Nat) (x5 x6:Option V),σ=[some (.ref oe),some (.int r),some (.int d),some (.int M),some (.ref l),x5,x6]/\Same H H2/\H2 l=some (.lst (ks.map fun k=>V.str (ltr k)))/\ks.length<=i/\i<=4/\∀ k∈ks,k<4/\canB st k=true/\(r:Int)+needZ (aftZ M k)<=20)
   ⟨[],none,none,rfl,(Same.refl H).new nl,upd_same,Nat.le_refl _,Nat.zero_le _,fun k hk=>(nomatch hk)⟩ ?_ ?_⟩
  ·rintro i c σ H2 hc ⟨ks,x5,x6,rfl,sm,hl2,hlen,hi4,hks⟩
   have hc':z.cps.toList[i]? = some c:=by simpa using hc
   have hi:i<4:=by
    have h1:=(Array.getElem?_eq_some_iff.mp hc).1
    have h2:z.cps.size=4:=z3
    omega
   obtain⟨k,hk,ek⟩:=ltr_of (of_decide_eq_true (List.all_eq_true.mp z2 c (List.mem_of_getElem? hc')))
   rw [ek]
   walk_at "wp"
   simp only [ltr_a' hk,ltr_d' hk]
   refine⟨.inl ⟨by decide,by decide⟩,.inl ⟨by decide,by decide⟩,oe,fd,A',B',st,f,k,rfl,hk,G.same sm,?_⟩
   have ea:M+2 * (if k=0 then 1 else 0) - 2 * (if k=3 then 1 else 0)=aftZ M k:=rfl
   rw [ea]
   have hb:-1000<=aftZ M k/\aftZ M k<=1000:=by
    unfold aftZ
    constructor<;>(split<;>split<;>omega)
   walk_at "wp"
   have no:∃ (ks':List Nat) (x5 x6:Option V),[some (V.ref oe),some (V.int r),some (V.int d),some (V.int M),some (V.ref l),some (V.str (ltr k)),some (V.int (aftZ M k))]=[some (.ref oe),some (.int r),some (.int d),some (.int M),some (.ref l),x5,x6]/\Same H H2/\H2 l=some (.lst (ks'.map fun k=>V.str (ltr k)))/\ks'.length<=i+1/\i+1<=4/\∀ k∈ks',k<4/\canB st k=true/\(r:Int)+needZ (aftZ M k)<=20:=
    ⟨ks,_,_,rfl,sm,hl2,Nat.le_succ_of_le hlen,hi,hks⟩
   cases hcan:canB st k with
   | false=>exact ifN (fun z=>nomatch z) no
   | true=>
    refine ifY rfl ⟨_,rfl,hb.1,hb.2,?_⟩
    walk_at "wp"
    refine ite2 (fun h20=>?_) (fun _=>no)
    refine⟨w_tyL hl2,_,hl2,by rw [List.length_map];exact small1000 (by omega),ks++[k],_,_,rfl,sm.new nl,by rw [upd_same,List.map_append];rfl,by rw [List.length_append];exact Nat.succ_le_succ hlen,hi,fun k' hk'=>?_⟩
    rcases List.mem_append.mp hk' with y | y
    ·exact hks k' y
    ·have e:k'=k:=by simpa using y
     subst e
     exact⟨hk,hcan,h20⟩
  ·rintro σ H2 ⟨ks,x5,x6,rfl,sm,hl2,hlen,hi4,hks⟩
   walk_at "wp"
   exact q' ks H2 sm hl2 hks
theorem ok_ended (B:Blt mg) (E:Fn K mg "_law_ended" s_ended ["_law_open_ends","_law_found","_law_row"]) (D_put:Def P w K mg base 1 "_law_put" s_put ["_law_open_ends","_law_found","_law_letter","_law_row"] spPut):Def P w K mg base 3 "_law_ended" s_ended ["_law_open_ends","_law_found","_law_row"] spEnded:=E.mk' fun f fd F=>by
 refine F.okS sc_ended (fun vs H Q E h=>?_) (fun cdv A outer s H vs Q E hr h=>?_)
 ·obtain⟨oe,fd,A',B',b,st,f,is,r,rfl,_⟩:=h
  rfl
 ·obtain⟨oe,fd,A',B',b,st,f,is,r,rfl,G,GG,hb,q⟩:=h
  refine⟨[some (.ref oe),some (.ref fd),some (.int r),none,none,none,none,none],_,rfl,(L2.QSs.h (qpss_cons (qps_set (i:=3) sc_ended.nd rfl (Or.inl rfl) (qpe_ix ix_list (qpv 0) qpe_int (fun _ _=>rfl)))
   (qpss_cons (qps_set (i:=4) sc_ended.nd rfl (Or.inl rfl) (qpe_ix ix_list (qpv 0) qpe_int (fun _ _=>rfl)))
   (qpss_cut (qps_while PassesOwn.never (qpt_cmpR op_gt (qpe_op op_add (qpe_callB call_len_seq (by rfl) B.len PySem.boot_len (qpa_Name (qpv 3) qpa_nil)) (qpe_callB call_len_seq (by rfl) B.len PySem.boot_len (qpa_Name (qpv 4) qpa_nil))) qpe_int (nomark _))
   (qpss_cons (qps_set (i:=5) sc_ended.nd rfl (Or.inl rfl) (qpe_op op_cat (qpv 3) (qpe_listrev rfl (by rfl) B.list (by rfl) B.reversed (qpv 4))))
    (qpss_cons (qps_set (i:=6) sc_ended.nd rfl (Or.inl rfl) qpe_int)
    (qpss_cut (qps_while PassesOwn.never (qpt_cmpR (op_eqD (hu_64 hr)) (qpe_ix ix_seq (qpe_ix ix_list (qpv 5) (qpe_op op_sub (qpv 6) qpe_int) (fun _ _=>rfl)) qpe_int (fun _ _=>rfl)) (qpe_ix ix_seq (qpe_ix ix_list (qpv 5) (qpv 6) (fun _ _=>rfl)) qpe_int (fun _ _=>rfl)) (nomark _))
    (qpss_one (qps_set (i:=6) sc_ended.nd rfl (Or.inl rfl) (qpe_op op_add (qpv 6) qpe_int))))
    (qpss_cons (qps_set (i:=7) sc_ended.nd rfl (Or.inl rfl) qpe_str)
    (qpss_cut (qps_if (qpt_cmpR op_lt (qpe_callB call_len_seq (by rfl) B.len PySem.boot_len (qpa_Name (qpv 3) qpa_nil)) (qpv 6) (nomark _))
    (qpss_one (qps_set (i:=7) sc_ended.nd rfl (Or.inl rfl) qpe_str))
    qpss_nil)
    (qpss_cut (qps_if (qpt_cmpR op_gt (qpe_callB call_len_seq (by rfl) B.len PySem.boot_len (qpa_Name (qpv 3) qpa_nil)) (qpv 6) (nomark _))
    (qpss_one (qps_set (i:=7) sc_ended.nd rfl (Or.inl rfl) qpe_str))
    qpss_nil)
    (qpss_cut (qps_expr (qpe_callD D_put (hr.mono (by decide)) (by rfl) (qpa_Name (qpv 0) (qpa_Name (qpv 1) (qpa_Name (qpv 7) (qpa_Name (qpv 2) qpa_nil))))))
    (qpss_one (qps_set (i:=2) sc_ended.nd rfl (Or.inl rfl) (qpe_op op_add (qpv 2) qpe_int)))))))))))
   (qpss_cut (qps_if (qpt_cmpR op_eq (qpe_callB call_len_seq (by rfl) B.len PySem.boot_len (qpa_Name (qpv 3) qpa_nil)) qpe_int (nomark _))
   (qpss_one (qps_expr (qpe_bm PySem.F.plainAttrs_list PySem.F.slot_list_append PySem.F.type_list_append mt_append (qpe_ix ix_list (qpv 1) qpe_int (fun _ _=>rfl)) (qpa_Tuple (qpe_tup (qpa_Subscript (qpe_ix ix_seq (qpe_ix ix_list (qpv 3) qpe_int (fun _ _=>rfl)) qpe_int (fun _ _=>rfl)) (qpa_Name (qpv 2) qpa_nil))) qpa_nil))))
   (qpss_one (qps_expr (qpe_bm PySem.F.plainAttrs_list PySem.F.slot_list_append PySem.F.type_list_append mt_append (qpe_ix ix_list (qpv 1) qpe_int (fun _ _=>rfl)) (qpa_Tuple (qpe_tup (qpa_Subscript (qpe_ix ix_seq (qpe_ix ix_list (qpv 4) qpe_int (fun _ _=>rfl)) qpe_int (fun _ _=>rfl)) (qpa_Name (qpv 2) qpa_nil))) qpa_nil)))))
   (qpss_one (qps_ret (qpe_op op_sub (qpv 2) qpe_int)))))))),?_⟩
  walk_at "wp"
  refine⟨_,_,SqL.of G.oe_,rfl,_,_,SqL.of G.oe_,rfl,?_⟩
  refine cut_intro (fun σ H'=>∃ (r:Nat) (st:Bool->List Oe) (f:Bool->List Bw) (is:List Pc) (x5 x6 x7:Option V),σ=[some (.ref oe),some (.ref fd),some (.int r),some (.ref (A' false)),some (.ref (A' true)),x5,x6,x7]/\Fr A' B' H H'/\GS H' oe fd A' B' st f/\Gr b st f r is/\r<=21/\(st false).length+(st true).length<=1) ?_ ?_
  ·refine⟨fun m σ H'=>∃ (r:Nat) (st:Bool->List Oe) (f:Bool->List Bw) (is:List Pc) (x5 x6 x7:Option V),σ=[some (.ref oe),some (.ref fd),some (.int r),some (.ref (A' false)),some (.ref (A' true)),x5,x6,x7]/\Fr A' B' H H'/\GS H' oe fd A' B' st f/\Gr b st f r is/\r+Phi st<=21/\m=Phi st,⟨_,r,st,f,is,none,none,none,rfl,Fr.refl _ _ _,G,GG,hb,rfl⟩,?_⟩
   clear G GG hb
   rintro m σ H1 ⟨r,st,f,is,x5,x6,x7,rfl,F1,G,GG,hb,rfl⟩
   obtain⟨as,a1,a2⟩:=id (G.s false)
   obtain⟨bs,b1,b2⟩:=id (G.s true)
   have la:(as.map V.ref).length=(st false).length:=by rw [List.length_map];exact Paired.length a2
   have lb:(bs.map V.ref).length=(st true).length:=by rw [List.length_map];exact Paired.length b2
   have hsm:=GG.small
   walk_at "wp"
   refine⟨_,.inl (SqL.of a1),_,.inl (SqL.of b1),?_⟩
   rw [la,lb]
   refine ite2 (fun h1=>?_) (fun h1=>⟨r,st,f,is,_,_,_,rfl,F1,G,GG,by omega,by omega⟩)
   have h1':1<(st false).length+(st true).length:=by omega
   obtain⟨st',f',PT,hphi⟩:=GG.end_put h1'
   obtain⟨js,GG'⟩:=PT.gr GG
   refine⟨fun σ' H'=>∃ (x5 x6 x7:Option V),σ'=[some (.ref oe),some (.ref fd),some (.int ((r+1:Nat):Int)),some (.ref (A' false)),some (.ref (A' true)),x5,x6,x7]/\Fr A' B' H H'/\GS H' oe fd A' B' st' f',fun σ' H' ⟨x5,x6,x7,e,F,G'⟩=>⟨_,Nat.lt_of_succ_le hphi,r+1,st',f',js,x5,x6,x7,e,F,G',GG',by omega,rfl⟩,?_⟩
   have ub:=(hsm true).1
   refine⟨_,b1,by rw [lb];omega,fun l nl=>?_⟩
   have s2:=(Same.refl H1).new (o:=.lst (bs.map V.ref).reverse) nl
   refine⟨A' false,l,_,_,rfl,rfl,s2 _ _ a1,upd_same,by rw [List.length_reverse,la,lb];have:=(hsm false).1;exact Nat.le_of_lt (small1000 (by omega)),fun e ne=>?_⟩
   have s3:=s2.new (o:=.lst (as.map V.ref++(bs.map V.ref).reverse)) (s2.free ne)
   have he:upd (upd H1 l (.lst (bs.map V.ref).reverse)) e (.lst (as.map V.ref++(bs.map V.ref).reverse)) e=some (.lst ((as++bs.reverse).map V.ref)):=by rw [upd_same];simp
   generalize upd (upd H1 l (.lst (bs.map V.ref).reverse)) e (.lst (as.map V.ref++(bs.map V.ref).reverse))=H3 at s3 he ⊢
   have G3:=G.same s3
   have F3:Fr A' B' H H3:=F1.trans (Fr.same s3)
   have pr:Paired (tupAt H3) (as++bs.reverse) (st false++(st true).reverse):=Paired.mapP (pair_app a2 (pair_rev b2)) fun a q z=>z.same s3
   have lab:∀ (i:Nat) (x:Int),(labsOf st)[i]? = some x->∃ a o,((as++bs.reverse).map V.ref)[i]? = some (.ref a)/\tupAt H3 a (o,x):=fun i x hx=>by
    unfold labsOf at hx
    rw [List.getElem?_map] at hx
    cases h2:(st false++(st true).reverse)[i]? with
    | none=>rw [h2] at hx;cases hx
    | some y=>
     rw [h2] at hx
     cases hx
     obtain⟨a,h3,h4⟩:=pair_at pr h2
     exact⟨a,y.1,by rw [List.getElem?_map,h3];rfl,h4⟩
   have hl1:1<(labsOf st).length:=by rw [labs_len];exact h1'
   obtain⟨tx,ty,ex,ey,tne⟩:=GG.tgt_ne hl1
   refine cut_intro (fun σ H'=>σ=[some (.ref oe),some (.ref fd),some (.int r),some (.ref (A' false)),some (.ref (A' true)),some (.ref e),some (.int (tgt (labsOf st):Nat)),x7]/\H3=H') ?_ ?_
   ·refine⟨fun m σ H'=>∃ t:Nat,σ=[some (.ref oe),some (.ref fd),some (.int r),some (.ref (A' false)),some (.ref (A' true)),some (.ref e),some (.int (t:Nat)),x7]/\H3=H'/\1<=t/\t<=tgt (labsOf st)/\m=2 - t,⟨_,1,rfl,rfl,by decide,by have:=tgt_two (labsOf st);omega,rfl⟩,?_⟩
    rintro m σ H' ⟨t,rfl,rfl,t1,t2,rfl⟩
    by_cases ht:t=tgt (labsOf st)
    ·subst ht
     obtain⟨a,o,c1,c2⟩:=lab _ _ ex
     obtain⟨a',o',d1,d2⟩:=lab _ _ ey
     walk_at "wp"
     refine⟨_,_,SqL.of he,by rw [show ((tgt (labsOf st):Nat):Int) - 1=((tgt (labsOf st) - 1:Nat):Int) by omega];exact atI_nat c1,.inr (.inl ⟨a,_,_,_,rfl,rfl,SqT.of c2,rfl,?_⟩)⟩
     refine⟨_,_,SqL.of he,atI_nat d1,.inr (.inl ⟨a',_,_,_,rfl,rfl,SqT.of d2,rfl,eqD_int ?_⟩)⟩
     simp only [Bool.false_eq_true,if_false]
     refine⟨_,rfl,ifN (by simp only [decide_eq_true_eq];exact tne) ⟨by first | rfl | trivial,by first | rfl | trivial⟩⟩
    ·have tt:=tgt_two (labsOf st)
     have t11:t=1:=by omega
     have tg2:tgt (labsOf st)=2:=by omega
     subst t11
     have e01:(labsOf st)[0]? = (labsOf st)[1]?:=by
      unfold tgt at tg2
      by_cases z:(labsOf st)[0]? = (labsOf st)[1]?
      ·exact z
      ·rw [if_neg z] at tg2;cases tg2
     obtain⟨x1,hx1⟩:∃ x,(labsOf st)[1]? = some x:=⟨_,List.getElem?_eq_getElem hl1⟩
     obtain⟨a,o,c1,c2⟩:=lab 0 x1 (e01.trans hx1)
     obtain⟨a',o',d1,d2⟩:=lab 1 x1 hx1
     walk_at "wp"
     refine⟨_,_,SqL.of he,atI_nat (j:=0) c1,.inr (.inl ⟨a,_,_,_,rfl,rfl,SqT.of c2,rfl,?_⟩)⟩
     refine⟨_,_,SqL.of he,atI_nat (j:=1) d1,.inr (.inl ⟨a',_,_,_,rfl,rfl,SqT.of d2,rfl,eqD_int ?_⟩)⟩
     simp only [Bool.false_eq_true,if_false]
     refine⟨_,rfl,ifY (by simp) ⟨fun σ' H'=>σ'=[some (.ref oe),some (.ref fd),some (.int r),some (.ref (A' false)),some (.ref (A' true)),some (.ref e),some (.int 2),x7]/\H3=H',fun σ' H' ⟨z1,z2⟩=>⟨0,by decide,2,z1,z2,by decide,by omega,rfl⟩,by first | exact⟨rfl,rfl⟩ | exact⟨trivial,trivial⟩⟩⟩
   rintro σ' H' ⟨rfl,rfl⟩
   have lA:=s3 _ _ a1
   walk_at "wp"
   refine cut_intro (fun σ H'=>σ=[some (.ref oe),some (.ref fd),some (.int r),some (.ref (A' false)),some (.ref (A' true)),some (.ref e),some (.int (tgt (labsOf st):Nat)),some (.str (if (st false).length<tgt (labsOf st) then Str.ofString "b" else Str.ofString "d"))]/\H3=H') ?_ ?_
   ·walk_at "wp"
    refine⟨_,.inl (SqL.of lA),?_⟩
    rw [la]
    refine ite2 (fun z=>?_) (fun z=>?_)
    ·rw [if_pos (Int.ofNat_lt.mp z)];exact⟨by first | rfl | trivial,by first | rfl | trivial⟩
    ·rw [if_neg (fun w=>z (Int.ofNat_lt.mpr w))];exact⟨by first | rfl | trivial,by first | rfl | trivial⟩
   rintro σ' H' ⟨rfl,rfl⟩
   refine cut_intro (fun σ H'=>σ=[some (.ref oe),some (.ref fd),some (.int r),some (.ref (A' false)),some (.ref (A' true)),some (.ref e),some (.int (tgt (labsOf st):Nat)),some (.str (ltr (endK st)))]/\H3=H') ?_ ?_
   ·walk_at "wp"
    refine⟨_,.inl (SqL.of lA),?_⟩
    rw [la]
    unfold endK
    refine ite2 (fun z=>?_) (fun z=>?_)
    ·have z':=Int.ofNat_lt.mp z
     rw [if_neg (by omega),if_pos z'];exact⟨by first | rfl | trivial,by first | rfl | trivial⟩
    ·have z':¬ tgt (labsOf st)<(st false).length:=fun w=>z (Int.ofNat_lt.mpr w)
     by_cases y:(st false).length<tgt (labsOf st)
     ·rw [if_pos y,if_pos y];exact⟨by first | rfl | trivial,by first | rfl | trivial⟩
     ·rw [if_neg y,if_neg y,if_neg z'];exact⟨by first | rfl | trivial,by first | rfl | trivial⟩
   rintro σ' H' ⟨rfl,rfl⟩
   refine cut_intro (fun σ H'=>σ=[some (.ref oe),some (.ref fd),some (.int r),some (.ref (A' false)),some (.ref (A' true)),some (.ref e),some (.int (tgt (labsOf st):Nat)),some (.str (ltr (endK st)))]/\Fr A' B' H H'/\GS H' oe fd A' B' st' f') ?_ ?_
   ·walk_at "wp"
    exact⟨oe,fd,A',B',st,f,st',f',endK st,r,rfl,G3,fun u=>⟨by have:=(hsm u).1;omega,by have:=(hsm u).2;omega⟩,PT,fun H4 F4 G4=>⟨by first | rfl | trivial,F3.trans F4,G4⟩⟩
   rintro σ' H4 ⟨rfl,F4,G4⟩
   walk_at "wp"
   exact⟨_,_,_,by first | rfl | trivial,F4,G4⟩
  clear G GG hb
  rintro σ' H1 ⟨r,st,f,is,x5,x6,x7,rfl,F1,G,GG,hr,hle⟩
  have hm:=GG.many
  have hone:(st false).length+(st true).length=1:=by omega
  obtain⟨t,o,l,e1,e2⟩:∃ (t:Bool) (o l:Int),st t=[(o,l)]/\st (!t)=[]:=by
   by_cases z:(st false).length=1
   ·obtain⟨⟨o,l⟩,e⟩:=List.length_eq_one_iff.mp z
    exact⟨false,o,l,e,List.eq_nil_of_length_eq_zero (show (st true).length=0 by omega)⟩
   ·obtain⟨⟨o,l⟩,e⟩:=List.length_eq_one_iff.mp (show (st true).length=1 by omega)
    exact⟨true,o,l,e,List.eq_nil_of_length_eq_zero (show (st false).length=0 by omega)⟩
  obtain⟨ns,n1,n2,n3⟩:=GG.last e1 e2
  have O:Ord ns:=⟨by omega,n2⟩
  have fin:∀ H',Fr A' B' H H'->GS H' oe fd A' B' st (fun v=>if v=t then f t++[(o,(r:Int))] else f v)->Q (.int ((r:Int) - 1)) H':=fun H' F' G'=>q _ ns _ H' F' ⟨G'.fd_,G'.f_,fun u=>by
   have:=(n3 u).1
   by_cases z:u=t
   ·subst z;rw [if_pos rfl] at this ⊢;exact this
   ·rw [if_neg z] at this ⊢;exact this,O⟩ fun u=>(n3 u).2
  refine cut_intro (fun σ H'=>∃ x5 x6 x7:Option V,σ=[some (.ref oe),some (.ref fd),some (.int r),some (.ref (A' false)),some (.ref (A' true)),x5,x6,x7]/\Fr A' B' H H'/\GS H' oe fd A' B' st (fun v=>if v=t then f t++[(o,(r:Int))] else f v)) ?_ ?_
  ·walk_at "wp"
   obtain⟨as,a1,a2⟩:=id (G.s false)
   have la:(as.map V.ref).length=(st false).length:=by rw [List.length_map];exact Paired.length a2
   refine⟨_,.inl (SqL.of a1),?_⟩
   rw [la]
   cases t with
   | false=>
    refine ifY (by rw [e1];rfl) ?_
    obtain⟨cs,c,c1,c2,c3,_⟩:=G.get false (i:=0) (e:=(o,l)) (by rw [e1];rfl)
    obtain⟨_,eB,_⟩:=G.f_ false
    refine⟨_,_,SqL.of G.fd_,rfl,w_tyL eB,_,_,SqL.of c1,atI_nat (j:=0) c2,.inr (.inl ⟨c,_,_,_,rfl,rfl,SqT.of c3,rfl,(by show 2<=sizeLine;decide),fun t nt=>?_⟩)⟩
    obtain⟨ys,eY,lY,G4⟩:=(G.new (o:=.tup [.int o,.int r]) nt).add false (t:=t) (p:=(o,(r:Int))) upd_same
    exact⟨B' false,ys,_,rfl,rfl,eY,small1000 (by have:=(GG.small false).2;omega),_,_,_,rfl,(F1.new nt).updB false,G4⟩
   | true=>
    refine ifN (by rw [show st false=[] from e2];simp) ?_
    obtain⟨cs,c,c1,c2,c3,_⟩:=G.get true (i:=0) (e:=(o,l)) (by rw [e1];rfl)
    obtain⟨_,eB,_⟩:=G.f_ true
    refine⟨_,_,SqL.of G.fd_,rfl,w_tyL eB,_,_,SqL.of c1,atI_nat (j:=0) c2,.inr (.inl ⟨c,_,_,_,rfl,rfl,SqT.of c3,rfl,(by show 2<=sizeLine;decide),fun t nt=>?_⟩)⟩
    obtain⟨ys,eY,lY,G4⟩:=(G.new (o:=.tup [.int o,.int r]) nt).add true (t:=t) (p:=(o,(r:Int))) upd_same
    exact⟨B' true,ys,_,rfl,rfl,eY,small1000 (by have:=(GG.small true).2;omega),_,_,_,rfl,(F1.new nt).updB true,G4⟩
  rintro σ' H2 ⟨y5,y6,y7,rfl,F2,G2⟩
  walk_at "wp"
  exact fin _ F2 G2
theorem ok_grown (B:Blt mg) (E:Fn K mg "_law_grown" s_grown ["_law_side","_law_digits_here"]) (D_fitting:Def P w K mg base 2 "_law_fitting" s_fitting ["_law_open_ends","_law_row","_law_digit"] spFitting) (D_put:Def P w K mg base 1 "_law_put" s_put ["_law_open_ends","_law_found","_law_letter","_law_row"] spPut) (D_ended:Def P w K mg base 3 "_law_ended" s_ended ["_law_open_ends","_law_found","_law_row"] spEnded):Def P w K mg base 4 "_law_grown" s_grown ["_law_side","_law_digits_here"] spGrown:=E.mk' fun f fd F=>by
 refine F.okS sc_grown (fun vs H Q E h=>?_) (fun cdv A outer s H vs Q E hr h=>?_)
 ·obtain⟨b,dl,ds,rfl,_⟩:=h
  rfl
 ·obtain⟨b,dl,ds,rfl,hd,hl,q⟩:=h
  refine⟨[some (.str (sd b)),some (.ref dl),none,none,none,none,none],_,rfl,(L2.QSs.h (qpss_cons (qps_set (i:=2) sc_grown.nd rfl (Or.inl rfl) (qpe_lst (qpa_List (qpe_lst qpa_nil) (qpa_List (qpe_lst qpa_nil) qpa_nil))))
   (qpss_cons (qps_expr (qpe_bm PySem.F.plainAttrs_list PySem.F.slot_list_append PySem.F.type_list_append mt_append (qpe_ix ix_list (qpv 2) (qpe_callTy call_int1 (by rfl) B.int PyProof.Rows.boot_int (qpa_Compare (qpe_cmpR op_eq (qpv 0) qpe_str (nomark _)) qpa_nil)) (fun _ _=>rfl)) (qpa_Tuple (qpe_tup (qpa_Constant qpe_int (qpa_Constant qpe_int qpa_nil))) qpa_nil)))
   (qpss_cut (qps_set (i:=3) sc_grown.nd rfl (Or.inl rfl) (qpe_lst (qpa_List (qpe_lst qpa_nil) (qpa_List (qpe_lst qpa_nil) qpa_nil))))
   (qpss_cons (qps_set (i:=4) sc_grown.nd rfl (Or.inl rfl) qpe_int)
   (qpss_cut (qps_for PassesOwn.never rfl (qpi_list (qpv 1)) (qpg_name (i:=5) sc_grown.nd rfl (Or.inl rfl))
   (qpss_cons (qps_set (i:=6) sc_grown.nd rfl (Or.inl rfl) (qpe_callD D_fitting (hr.mono (by decide)) (by rfl) (qpa_Name (qpv 2) (qpa_Name (qpv 4) (qpa_Name (qpv 5) qpa_nil)))))
    (qpss_cons (qps_if (qpt_cmpR op_eq (qpe_callB call_len_seq (by rfl) B.len PySem.boot_len (qpa_Name (qpv 6) qpa_nil)) qpe_int (nomark _))
    (qpss_one qps_break)
    qpss_nil)
    (qpss_cons (qps_expr (qpe_callD D_put (hr.mono (by decide)) (by rfl) (qpa_Name (qpv 2) (qpa_Name (qpv 3) (qpa_Subscript (qpe_ix ix_list (qpv 6) qpe_int (fun _ _=>rfl)) (qpa_Name (qpv 4) qpa_nil))))))
    (qpss_one (qps_set (i:=4) sc_grown.nd rfl (Or.inl rfl) (qpe_op op_add (qpv 4) qpe_int)))))))
   (qpss_cons (qps_expr (qpe_callD D_ended (hr.mono (by decide)) (by rfl) (qpa_Name (qpv 2) (qpa_Name (qpv 3) (qpa_Name (qpv 4) qpa_nil)))))
   (qpss_one (qps_ret (qpv 3)))))))))),?_⟩
  walk_at "wp"
  refine⟨Nat.zero_le _,fun p np=>⟨Nat.zero_le _,fun p1 np1=>⟨(by show 2<=sizeLine;decide),fun oe noe=>?_⟩⟩⟩
  have u1:=(Same.refl H).new (o:=.lst []) np
  have u2:=u1.new (o:=.lst []) (u1.free np1)
  have u3:=u2.new (o:=.lst [.ref p,.ref p1]) (u2.free noe)
  have e1:p≠p1:=fun e=>by subst e;rw [upd_same] at np1;cases np1
  have e2:p≠oe:=fun e=>by subst e;rw [upd_ne e1,upd_same] at noe;cases noe
  have e3:p1≠oe:=fun e=>by subst e;rw [upd_same] at noe;cases noe
  have g1:upd (upd (upd H p (.lst [])) p1 (.lst [])) oe (.lst [.ref p,.ref p1]) p=some (.lst []):=by rw [upd_ne e2,upd_ne e1,upd_same]
  have g2:upd (upd (upd H p (.lst [])) p1 (.lst [])) oe (.lst [.ref p,.ref p1]) p1=some (.lst []):=by rw [upd_ne e3,upd_same]
  have g3:upd (upd (upd H p (.lst [])) p1 (.lst [])) oe (.lst [.ref p,.ref p1]) oe=some (.lst [.ref p,.ref p1]):=upd_same
  have np1':=u1.free np1
  have noe':=u2.free noe
  generalize upd (upd (upd H p (.lst [])) p1 (.lst [])) oe (.lst [.ref p,.ref p1])=H3 at u3 g1 g2 g3 ⊢
  clear np1 noe u1 u2
  generalize hA:(fun u:Bool=>if u then p1 else p)=A'
  have A0:A' false=p:=by rw [<-hA];rfl
  have A1:A' true=p1:=by rw [<-hA];rfl
  have gA:∀ u,H3 (A' u)=some (.lst []):=fun u=>by cases u;rw [A0];exact g1;rw [A1];exact g2
  have nA:∀ u,H (A' u)=none:=fun u=>by cases u;rw [A0];exact np;rw [A1];exact np1'
  have oA:∀ u,oe≠A' u:=fun u=>by cases u;rw [A0];exact e2.symm;rw [A1];exact e3.symm
  rw [<-A0,<-A1] at g3 e1
  refine⟨_,.ref (A' b),SqL.of g3,by cases b<;>rfl,w_tyL (gA b),(by show 2<=sizeLine;decide),fun t nt=>?_⟩
  have v4:=(Same.refl H3).new (o:=.tup [.int 0,.int 0]) nt
  refine⟨A' b,[],_,rfl,rfl,v4 _ _ (gA b),by decide,?_⟩
  rw [List.nil_append]
  have sb:∀ u,(if u=b then [((0:Int),(0:Int))] else []).length<=1:=fun u=>by split<;>simp
  refine cut_intro (fun σ H'=>∃ fd B',σ=[some (.str (sd b)),some (.ref dl),some (.ref oe),some (.ref fd),none,none,none]/\Same H H'/\H fd=none/\(∀ u,H (B' u)=none)/\GS H' oe fd A' B' (fun u=>if u=b then [((0:Int),(0:Int))] else []) (fun _=>[])) ?_ ?_
  ·have t5:tupAt (upd H3 t (.tup [.int 0,.int 0])) t (0,0):=upd_same
   have nAt:∀ u,A' u≠t:=fun u=>ne_of_none (gA u) nt
   have eA:=v4 _ _ (gA b)
   have s5:Same H (upd (upd H3 t (.tup [.int 0,.int 0])) (A' b) (.lst [.ref t])):=(u3.trans v4).new (nA b)
   have k1:∀ u,BowsAt (upd (upd H3 t (.tup [.int 0,.int 0])) (A' b) (.lst [.ref t])) (A' u) (if u=b then [((0:Int),(0:Int))] else []):=fun u=>by
    by_cases z:u=b
    ·subst z
     rw [if_pos rfl]
     exact⟨[t],upd_same,.cons (tup_upd eA t5) .nil⟩
    ·rw [if_neg z]
     have ne:A' u≠A' b:=by
      cases u<;>cases b<;>first | exact absurd rfl z | exact e1 | exact e1.symm
     exact⟨[],by rw [upd_ne ne];exact v4 _ _ (gA u),.nil⟩
   have k2:upd (upd H3 t (.tup [.int 0,.int 0])) (A' b) (.lst [.ref t]) oe=some (.lst [.ref (A' false),.ref (A' true)]):=by rw [upd_ne (oA b)];exact v4 _ _ g3
   have kA:∀ u,∃ o,upd (upd H3 t (.tup [.int 0,.int 0])) (A' b) (.lst [.ref t]) (A' u)=some o:=fun u=>let ⟨_,x,_⟩:=k1 u;⟨_,x⟩
   generalize upd (upd H3 t (.tup [.int 0,.int 0])) (A' b) (.lst [.ref t])=H5 at s5 k1 k2 kA ⊢
   walk_at "wp"
   refine⟨Nat.zero_le _,fun q0 n0=>⟨Nat.zero_le _,fun q1 n1=>⟨(by show 2<=sizeLine;decide),fun fd nf=>?_⟩⟩⟩
   have w1:=(Same.refl H5).new (o:=.lst []) n0
   have w2:=w1.new (o:=.lst []) (w1.free n1)
   have w3:=w2.new (o:=.lst [.ref q0,.ref q1]) (w2.free nf)
   have d1:q0≠q1:=fun e=>by subst e;rw [upd_same] at n1;cases n1
   have d2:q0≠fd:=fun e=>by subst e;rw [upd_ne d1,upd_same] at nf;cases nf
   have d3:q1≠fd:=fun e=>by subst e;rw [upd_same] at nf;cases nf
   have h0:upd (upd (upd H5 q0 (.lst [])) q1 (.lst [])) fd (.lst [.ref q0,.ref q1]) q0=some (.lst []):=by rw [upd_ne d2,upd_ne d1,upd_same]
   have h1:upd (upd (upd H5 q0 (.lst [])) q1 (.lst [])) fd (.lst [.ref q0,.ref q1]) q1=some (.lst []):=by rw [upd_ne d3,upd_same]
   have h2:upd (upd (upd H5 q0 (.lst [])) q1 (.lst [])) fd (.lst [.ref q0,.ref q1]) fd=some (.lst [.ref q0,.ref q1]):=upd_same
   have n1':=w1.free n1
   have nf':=w2.free nf
   refine⟨fd,fun u=>if u then q1 else q0,rfl,s5.trans w3,s5.free nf',fun u=>by cases u;exact s5.free n0;exact s5.free n1',⟨w3 _ _ k2,h2,fun u=>(k1 u).same w3,fun u=>⟨[],by cases u;exact h0;exact h1,.nil⟩,e1,d1,fun u v=>?_,fun u=>⟨oA u,?_,?_,?_⟩⟩⟩
   ·obtain⟨o,ho⟩:=kA u
    cases v
    ·exact ne_of_none ho n0
    ·exact ne_of_none ho n1'
   ·cases u
    ·exact ne_of_none k2 n0
    ·exact ne_of_none k2 n1'
   ·obtain⟨o,ho⟩:=kA u
    exact (ne_of_none ho nf').symm
   ·cases u
    ·exact d2.symm
    ·exact d3.symm
  rintro σ' H6 ⟨fd,B',rfl,s6,nf,nB,G6⟩
  walk_at "wp"
  refine cut_intro (fun σ H'=>∃ (r:Nat) (st:Bool->List Oe) (f:Bool->List Bw) (is:List Pc) (x5 x6:Option V),σ=[some (.str (sd b)),some (.ref dl),some (.ref oe),some (.ref fd),some (.int r),x5,x6]/\Same H H'/\GS H' oe fd A' B' st f/\Gr b st f r is/\(r:Int)+needZ ((st false).length+(st true).length)<=21/\r<=21) ?_ ?_
  ·walk_at "wp"
   refine⟨⟨_,SqL.of (s6 _ _ hd)⟩,for_list (xs:=ds.map V.int) (fun i σ H'=>∃ (r:Nat) (st:Bool->List Oe) (f:Bool->List Bw) (is:List Pc) (x5 x6:Option V),σ=[some (.str (sd b)),some (.ref dl),some (.ref oe),some (.ref fd),some (.int r),x5,x6]/\Same H H'/\GS H' oe fd A' B' st f/\Gr b st f r is/\(r:Int)+needZ ((st false).length+(st true).length)<=21/\r<=21)
    ⟨1,_,_,_,none,none,rfl,s6,G6,Gr.start b,by cases b<;>decide,by decide⟩ (fun i σ H' _ ⟨_,_,_,_,_,_,_,sm,_⟩=>SqL.of (sm _ _ hd)) ?_ fun σ H' z=>z⟩
   rintro i x σ H7 hx ⟨r,st,f,is,x5,x6,rfl,sm,G,GG,hb,hr⟩
   obtain⟨y,hy,rfl⟩:=got_map hx
   have hsm:=GG.small
   walk_at "wp"
   refine⟨oe,fd,A',B',st,f,r,y,rfl,G,fun u=>by have:=(hsm u).1;omega,by omega,fun l ks H8 nl s8 hl hks=>?_⟩
   walk_at "wp"
   have G8:=G.same s8
   have sm8:=sm.trans s8
   cases ks with
   | nil=>exact⟨_,.inl (SqL.of hl),ifY rfl ⟨r,st,f,is,_,_,rfl,sm8,G8,GG,hb,hr⟩⟩
   | cons k kr=>
    obtain⟨k4,kc,kn⟩:=hks k List.mem_cons_self
    obtain⟨st',f',PT⟩:=put_of f r k4 kc
    obtain⟨js,GG'⟩:=PT.gr GG
    have hmany:=PT.many
    have nn:0<=needZ (aftZ ((st false).length+(st true).length) k):=by unfold needZ;split<;>omega
    refine⟨_,.inl (SqL.of hl),ifN (by rw [List.length_map,List.length_cons];omega) ⟨_,_,SqL.of hl,atI_nat (j:=0) (v:=V.str (ltr k)) (by simp),oe,fd,A',B',st,f,st',f',k,r,rfl,G8,fun u=>⟨by have:=(hsm u).1;omega,by have:=(hsm u).2;omega⟩,PT,fun H9 F9 G9=>?_⟩⟩
    exact⟨r+1,st',f',js,_,_,rfl,Fr.toSame (fun u=>⟨nA u,nB u⟩) sm8 F9,G9,GG',by rw [hmany];push_cast;omega,by omega⟩
  rintro σ' H7 ⟨r,st,f,is,x5,x6,rfl,sm,G,GG,hb,hr⟩
  walk_at "wp"
  have hphi:=GG.phi_need
  refine⟨oe,fd,A',B',b,st,f,is,r,rfl,G,GG,by omega,fun n ns Fs H8 F8 FO nc=>?_⟩
  exact q fd B' ns Fs H8 nf (Fr.toSame (fun u=>⟨nA u,nB u⟩) sm F8) FO nc
theorem ok_order_of (B:Blt mg) (E:Fn K mg "_law_order_of" s_order_of ["_law_side","_law_found"]):Def P w K mg base 1 "_law_order_of" s_order_of ["_law_side","_law_found"] spOrderOf:=E.mk' fun f fd F=>by
 refine F.okS sc_order_of (fun vs H Q E h=>?_) (fun cdv A outer s H vs Q E hr h=>?_)
 ·obtain⟨b,fd,g,ns,Fs,rfl,_⟩:=h
  rfl
 ·obtain⟨b,fd,g,ns,Fs,rfl,FO,q⟩:=h
  have O:=FO.ord
  have hn:=O.len
  have hsum:=FO.sum
  refine⟨[some (.str (sd b)),some (.ref fd),none,none,none,none,none,none],_,rfl,(L2.QSs.h (qpss_cons (qps_set (i:=2) sc_order_of.nd rfl (Or.inl rfl) (qpe_lst qpa_nil))
   (qpss_cons (qps_set (i:=3) sc_order_of.nd rfl (Or.inl rfl) qpe_int)
   (qpss_cons (qps_set (i:=4) sc_order_of.nd rfl (Or.inl rfl) (qpe_callTy call_int1 (by rfl) B.int PyProof.Rows.boot_int (qpa_Compare (qpe_cmpR op_eq (qpv 0) qpe_str (nomark _)) qpa_nil)))
   (qpss_cons (qps_set (i:=5) sc_order_of.nd rfl (Or.inl rfl) (qpe_op op_add (qpe_callB call_len_seq (by rfl) B.len PySem.boot_len (qpa_Subscript (qpe_ix ix_list (qpv 1) qpe_int (fun _ _=>rfl)) qpa_nil)) (qpe_callB call_len_seq (by rfl) B.len PySem.boot_len (qpa_Subscript (qpe_ix ix_list (qpv 1) qpe_int (fun _ _=>rfl)) qpa_nil))))
   (qpss_cons (qps_while PassesOwn.never (qpt_cmpR op_ne (qpv 3) (qpv 5) (nomark _))
   (qpss_cut (qps_for PassesOwn.never rfl (qpi_list (qpe_ix ix_list (qpv 1) (qpv 4) (fun _ _=>rfl))) (qpg_name (i:=6) sc_order_of.nd rfl (Or.inl rfl))
    (qpss_one (qps_if (qpt_cmpR (op_inD (hu_64 hr)) (qpv 3) (qpv 6) (by with_unfolding_all rfl))
     (qpss_one (qps_set (i:=7) sc_order_of.nd rfl (Or.inl rfl) (qpe_op op_sub (qpe_op op_add (qpe_ix ix_tup (qpv 6) qpe_int (fun _ _=>rfl)) (qpe_ix ix_tup (qpv 6) qpe_int (fun _ _=>rfl))) (qpv 3))))
     qpss_nil)))
    (qpss_cons (qps_set (i:=3) sc_order_of.nd rfl (Or.inl rfl) (qpv 7))
    (qpss_cons (qps_set (i:=4) sc_order_of.nd rfl (Or.inl rfl) (qpe_op op_sub qpe_int (qpv 4)))
    (qpss_one (qps_if (qpt_cmpR op_ne (qpv 3) (qpv 5) (nomark _))
    (qpss_one (qps_expr (qpe_bm PySem.F.plainAttrs_list PySem.F.slot_list_append PySem.F.type_list_append mt_append (qpv 2) (qpa_Name (qpv 3) qpa_nil))))
    qpss_nil))))))
   (qpss_one (qps_ret (qpe_callTy call_tuple_of (by rfl) B.tuple PyProof.Rows.boot_tuple (qpa_Name (qpv 2) qpa_nil)))))))))),?_⟩
  obtain⟨as,a1,a2⟩:=id (FO.bows false)
  obtain⟨bs,b1,b2⟩:=id (FO.bows true)
  have la:(as.map V.ref).length=(Fs false).length:=by rw [List.length_map];exact Paired.length a2
  have lb:(bs.map V.ref).length=(Fs true).length:=by rw [List.length_map];exact Paired.length b2
  walk_at "wp"
  refine⟨Nat.zero_le _,fun l nl=>?_⟩
  have s0:=(Same.refl H).new (o:=.lst []) nl
  have F0:=FO.same s0
  refine⟨_,_,SqL.of F0.at_,rfl,_,_,rfl,.inl (SqL.of (s0 _ _ a1)),_,_,SqL.of F0.at_,rfl,_,_,rfl,.inl (SqL.of (s0 _ _ b1)),?_⟩
  rw [la,lb]
  have eL:((Fs false).length:Int)+(Fs true).length=(ns.length:Int)+1:=by omega
  rw [eL]
  simp only [sd_r]
  refine⟨fun m σ H2=>∃ (i:Nat) (x6 x7:Option V),σ=[some (.str (sd b)),some (.ref fd),some (.ref l),some (.int (rowZ ns i)),some (.int (if (b ^^ odd i) then 1 else 0)),some (.int ((ns.length:Int)+1)),x6,x7]/\Same H H2/\H2 l=some (.lst ((ns.take i).map V.int))/\i<=ns.length+1/\m=ns.length+1 - i,⟨_,0,none,none,by rw [rowZ_0,show odd 0=false from rfl,Bool.xor_false],s0,upd_same,Nat.zero_le _,rfl⟩,?_⟩
  rintro m σ H2 ⟨i,x6,x7,rfl,sm,hl,hi,rfl⟩
  walk_at "wp"
  refine ite2 (fun hne=>?_) (fun he=>?_)
  ·have hin:i<=ns.length:=by
    apply Decidable.byContradiction
    intro z
    have:i=ns.length+1:=by omega
    subst this
    exact hne (rowZ_last ns)
   have F2:=FO.same sm
   have on:=F2.only hin
   obtain⟨cs,c1,cl,cg⟩:=(F2.bows (b ^^ odd i)).get
   have lasti:rowZ ns (i+1)≠(ns.length:Int)+1->i<ns.length:=fun z=>by
    apply Decidable.byContradiction
    intro w
    have:i=ns.length:=by omega
    subst this
    exact z (rowZ_last ns)
   have tk:rowZ ns (i+1)≠(ns.length:Int)+1->(ns.take (i+1)).map V.int=(ns.take i).map V.int++[.int (rowZ ns (i+1))]:=fun z=>by
    have hi2:=lasti z
    rw [List.take_add_one,List.getElem?_eq_getElem hi2,List.map_append,rowZ_ring (List.getElem?_eq_getElem hi2)];rfl
   have tk2:rowZ ns (i+1)=(ns.length:Int)+1->(ns.take (i+1)).map V.int=(ns.take i).map V.int:=fun z=>by
    have:i+1=ns.length+1:=O.row_inj (by omega) (by omega) (z.trans (rowZ_last ns).symm)
    rw [List.take_of_length_le (by omega),List.take_of_length_le (by omega)]
   refine⟨fun σ' H'=>∃ (x6 x7:Option V),σ'=[some (.str (sd b)),some (.ref fd),some (.ref l),some (.int (rowZ ns (i+1))),some (.int (if (b ^^ odd (i+1)) then 1 else 0)),some (.int ((ns.length:Int)+1)),x6,x7]/\Same H H'/\H' l=some (.lst ((ns.take (i+1)).map V.int)),fun σ' H' ⟨x6,x7,e,a,c⟩=>⟨ns.length+1 - (i+1),by omega,i+1,x6,x7,e,a,c,by omega,rfl⟩,?_⟩
   refine cut_intro (fun σ H'=>∃ x6:Option V,σ=[some (.str (sd b)),some (.ref fd),some (.ref l),some (.int (rowZ ns i)),some (.int (if (b ^^ odd i) then 1 else 0)),some (.int ((ns.length:Int)+1)),x6,some (.int (rowZ ns (i+1)))]/\H2=H') ?_ ?_
   ·walk_at "wp"
    refine⟨_,.ref (g (b ^^ odd i)),SqL.of F2.at_,by cases (b ^^ odd i)<;>rfl,_,rfl,⟨_,SqL.of c1⟩,?_⟩
    refine for_list (xs:=cs.map V.ref) (fun j σ H'=>∃ x6 x7:Option V,σ=[some (.str (sd b)),some (.ref fd),some (.ref l),some (.int (rowZ ns i)),some (.int (if (b ^^ odd i) then 1 else 0)),some (.int ((ns.length:Int)+1)),x6,x7]/\H2=H'/\((∃ p∈(Fs (b ^^ odd i)).take j,hasR (rowZ ns i) p=true)->x7=some (.int (rowZ ns (i+1)))))
     ⟨_,_,rfl,rfl,fun ⟨p,hp,_⟩=>by rw [List.take_zero] at hp;cases hp⟩ (fun j σ H' _ ⟨_,_,_,e,_⟩=>by rw [<-e];exact SqL.of c1) ?_ ?_
    ·rintro j x σ H' hx ⟨y6,y7,rfl,rfl,hj⟩
     obtain⟨a,p,rfl,hp,ta⟩:=cg j x hx
     have tk3:(Fs (b ^^ odd i)).take (j+1)=(Fs (b ^^ odd i)).take j++[p]:=by rw [List.take_add_one,hp];rfl
     walk_at "wp"
     refine in_ints (ns:=[p.1,p.2]) (.inr (SqT.of ta)) ?_
     have eh:decide (rowZ ns i∈[p.1,p.2])=hasR (rowZ ns i) p:=by simp [hasR]
     simp only [Bool.false_eq_true,if_false,eh]
     refine⟨_,rfl,?_⟩
     refine ite2 (fun z=>?_) (fun z=>?_)
     ·refine⟨_,_,SqT.of ta,rfl,_,_,SqT.of ta,rfl,?_⟩
      have ep:p=stepB ns i:=by
       have:p∈(Fs (b ^^ odd i)).filter (hasR (rowZ ns i)):=List.mem_filter.mpr ⟨List.mem_of_getElem? hp,z⟩
       rw [on] at this
       simpa using this
      have es:p.1+p.2 - rowZ ns i=rowZ ns (i+1):=by rw [ep,step_sum];omega
      walk_at "wp"
      rw [es]
      exact⟨_,_,rfl,by first | rfl | trivial,fun _=>rfl⟩
     ·refine⟨_,_,rfl,by first | rfl | trivial,fun ⟨p',hp',hh⟩=>hj ?_⟩
      rw [tk3] at hp'
      rcases List.mem_append.mp hp' with w | w
      ·exact⟨p',w,hh⟩
      ·have e:p'=p:=by simpa using w
       subst e
       exact absurd hh z
    ·rintro σ H' ⟨y6,y7,rfl,rfl,hj⟩
     have:y7=some (.int (rowZ ns (i+1))):=hj ⟨stepB ns i,by
      have hm:stepB ns i∈(Fs (b ^^ odd i)).filter (hasR (rowZ ns i)):=by rw [on];simp
      obtain⟨m1,m2⟩:=List.mem_filter.mp hm
      rw [List.length_map,cl,List.take_length]
      exact⟨m1,m2⟩⟩
     subst this
     exact⟨_,rfl,rfl⟩
   rintro σ' H' ⟨y6,rfl,rfl⟩
   have ek:(1:Int) - (if (b ^^ odd i) then 1 else 0)=if (b ^^ odd (i+1)) then 1 else 0:=by
    rw [odd_succ]
    cases b<;>cases odd i<;>rfl
   walk_at "wp"
   rw [ek]
   refine ite2 (fun z=>?_) (fun z=>?_)
   ·refine⟨w_tyL hl,_,hl,by rw [List.length_map,List.length_take];exact small1000 (by omega),_,_,rfl,sm.new nl,?_⟩
    rw [upd_same,tk z]
   ·refine⟨_,_,rfl,sm,?_⟩
    rw [tk2 (Classical.not_not.mp z)]
    exact hl
  ·have:i=ns.length+1:=O.row_inj (by omega) (by omega) ((Classical.not_not.mp he).trans (rowZ_last ns).symm)
   subst this
   rw [List.take_of_length_le (by omega)] at hl
   exact⟨_,.inl ⟨SqL.of hl,fun t nt=>q t _ (sm.free nt) (sm.new (sm.free nt)) upd_same⟩⟩
theorem ok_drawable (E:Fn K mg "_law_drawable" s_drawable ["_law_side","_law_digits_here"]) (D_grown:Def P w K mg base 4 "_law_grown" s_grown ["_law_side","_law_digits_here"] spGrown) (D_order_of:Def P w K mg base 1 "_law_order_of" s_order_of ["_law_side","_law_found"] spOrderOf):Def P w K mg base 5 "_law_drawable" s_drawable ["_law_side","_law_digits_here"] spDrawable:=E.mk' fun f fd F=>by
 refine F.okS sc_drawable (fun vs H Q E h=>?_) (fun cdv A outer s H vs Q E hr h=>?_)
 ·obtain⟨b,dl,ds,rfl,_⟩:=h
  rfl
 ·obtain⟨b,dl,ds,rfl,hd,hl,q⟩:=h
  refine⟨[some (.str (sd b)),some (.ref dl)],_,rfl,(L2.QSs.h (qpss_one (qps_ret (qpe_tup (qpa_Name (qpv 0) (qpa_Call (qpe_callD D_order_of (hr.mono (by decide)) (by rfl) (qpa_Name (qpv 0) (qpa_Call (qpe_callD D_grown (hr.mono (by decide)) (by rfl) (qpa_Name (qpv 0) (qpa_Name (qpv 1) qpa_nil))) qpa_nil))) qpa_nil)))))),?_⟩
  walk_at "wp"
  refine⟨b,dl,ds,rfl,hd,hl,fun fd g ns Fs H1 nf s1 FO nc=>?_⟩
  refine⟨b,fd,g,ns,Fs,rfl,FO,fun t H2 nt s2 ht=>⟨(by show 2<=sizeLine;decide),fun m nm=>?_⟩⟩
  have s3:=(Same.refl H2).new (o:=.tup [.str (sd b),.ref t]) nm
  exact q m t ns _ (s1.free (s2.free nm)) (s1.free nt) ((s1.trans s2).trans s3) ⟨upd_same,s3 _ _ ht⟩ FO.ord nc
theorem ok_bows (B:Blt mg) (E:Fn K mg "_law_bows" s_bows ["_law_maze"]):Def P w K mg base 1 "_law_bows" s_bows ["_law_maze"] spBowsL:=E.mk' fun f fd F=>by
 refine F.okS sc_bows (fun vs H Q E h=>?_) (fun cdv A outer s H vs Q E hr h=>?_)
 ·obtain⟨m,o,b,ns,rfl,_⟩:=h
  rfl
 ·obtain⟨m,o,b,ns,rfl,hm,hl,q⟩:=h
  refine⟨[some (.ref m),none,none,none,none],_,rfl,(L2.QSs.h (qpss_cut (qps_set (i:=1) sc_bows.nd rfl (Or.inl rfl) (qpe_op op_cat (qpe_op op_cat (qpe_lst (qpa_Constant qpe_int qpa_nil)) (qpe_callTy call_list_of (by rfl) B.list PyProof.Rows.boot_list (qpa_Subscript (qpe_ix ix_tup (qpv 0) qpe_int (fun _ _=>rfl)) qpa_nil))) (qpe_lst (qpa_BinOp (qpe_op op_add (qpe_callB call_len_seq (by rfl) B.len PySem.boot_len (qpa_Subscript (qpe_ix ix_tup (qpv 0) qpe_int (fun _ _=>rfl)) qpa_nil)) qpe_int) qpa_nil))))
   (qpss_cons (qps_set (i:=2) sc_bows.nd rfl (Or.inl rfl) (qpe_lst (qpa_List (qpe_lst qpa_nil) (qpa_List (qpe_lst qpa_nil) qpa_nil))))
   (qpss_cut (qps_set (i:=3) sc_bows.nd rfl (Or.inl rfl) (qpe_callTy call_int1 (by rfl) B.int PyProof.Rows.boot_int (qpa_Compare (qpe_cmpR op_eq (qpe_ix ix_tup (qpv 0) qpe_int (fun _ _=>rfl)) qpe_str (nomark _)) qpa_nil)))
   (qpss_cons (qps_for PassesOwn.never rfl (qpi_range2 (by rfl) B.range (qpa_Constant qpe_int (qpa_Call (qpe_callB call_len_seq (by rfl) B.len PySem.boot_len (qpa_Name (qpv 1) qpa_nil)) qpa_nil))) (qpg_name (i:=4) sc_bows.nd rfl (Or.inl rfl))
   (qpss_cons (qps_expr (qpe_bm PySem.F.plainAttrs_list PySem.F.slot_list_append PySem.F.type_list_append mt_append (qpe_ix ix_list (qpv 2) (qpv 3) (fun _ _=>rfl)) (qpa_Tuple (qpe_tup (qpa_Call (qpe_callB (call_min2 rfl) (by rfl) B.min PyProof.Rows.boot_min (qpa_Subscript (qpe_ix ix_list (qpv 1) (qpe_op op_sub (qpv 4) qpe_int) (fun _ _=>rfl)) (qpa_Subscript (qpe_ix ix_list (qpv 1) (qpv 4) (fun _ _=>rfl)) qpa_nil))) (qpa_Call (qpe_callB (call_max2 rfl) (by rfl) B.max PyProof.Rows.boot_max (qpa_Subscript (qpe_ix ix_list (qpv 1) (qpe_op op_sub (qpv 4) qpe_int) (fun _ _=>rfl)) (qpa_Subscript (qpe_ix ix_list (qpv 1) (qpv 4) (fun _ _=>rfl)) qpa_nil))) qpa_nil))) qpa_nil)))
    (qpss_one (qps_set (i:=3) sc_bows.nd rfl (Or.inl rfl) (qpe_op op_sub qpe_int (qpv 3))))))
   (qpss_one (qps_ret (qpv 2)))))))),?_⟩
  refine cut_intro (fun σ H'=>∃ rl,σ=[some (.ref m),some (.ref rl),none,none,none]/\Same H H'/\H rl=none/\H' rl=some (.lst ((rowsZ ns).map V.int))) ?_ ?_
  ·walk_at "wp"
   refine⟨(by show 1<=sizeLine;decide),fun p1 n1=>?_⟩
   have s1:=(Same.refl H).new (o:=.lst [.int 0]) n1
   refine⟨_,_,SqT.of (s1 _ _ hm.1),rfl,o,_,rfl,.inr (SqT.of (s1 _ _ hm.2)),fun p2 n2=>?_⟩
   have s2:=s1.new (o:=.lst (ns.map V.int)) (s1.free n2)
   have e12:p1≠p2:=fun e=>by subst e;rw [upd_same] at n2;cases n2
   refine⟨p1,p2,_,_,rfl,rfl,by rw [upd_ne e12,upd_same],upd_same,Nat.le_of_lt (small1000 (by simp;omega)),fun p3 n3=>?_⟩
   have s3:=s2.new (o:=.lst ([.int 0]++ns.map V.int)) (s2.free n3)
   refine⟨_,_,SqT.of (s3 _ _ hm.1),rfl,o,_,rfl,.inr (SqT.of (s3 _ _ hm.2)),(by show 1<=sizeLine;decide),fun p4 n4=>?_⟩
   have s4:=s3.new (o:=.lst [.int (((ns.map V.int).length:Int)+1)]) (s3.free n4)
   have e34:p3≠p4:=fun e=>by subst e;rw [upd_same] at n4;cases n4
   refine⟨p3,p4,_,_,rfl,rfl,by rw [upd_ne e34,upd_same],upd_same,Nat.le_of_lt (small1000 (by simp;omega)),fun p5 n5=>?_⟩
   have s5:=s4.new (o:=.lst ([.int 0]++ns.map V.int++[.int (((ns.map V.int).length:Int)+1)])) (s4.free n5)
   exact⟨p5,rfl,s5,s4.free n5,by rw [upd_same];simp [rowsZ]⟩
  rintro σ' H1 ⟨rl,rfl,s1,nrl,hrl⟩
  walk_at "wp"
  refine⟨Nat.zero_le _,fun p np=>⟨Nat.zero_le _,fun p1 np1=>⟨(by show 2<=sizeLine;decide),fun oe noe=>?_⟩⟩⟩
  have u1:=(Same.refl H1).new (o:=.lst []) np
  have u2:=u1.new (o:=.lst []) (u1.free np1)
  have u3:=u2.new (o:=.lst [.ref p,.ref p1]) (u2.free noe)
  have e1:p≠p1:=fun e=>by subst e;rw [upd_same] at np1;cases np1
  have e2:p≠oe:=fun e=>by subst e;rw [upd_ne e1,upd_same] at noe;cases noe
  have e3:p1≠oe:=fun e=>by subst e;rw [upd_same] at noe;cases noe
  have g1:upd (upd (upd H1 p (.lst [])) p1 (.lst [])) oe (.lst [.ref p,.ref p1]) p=some (.lst []):=by rw [upd_ne e2,upd_ne e1,upd_same]
  have g2:upd (upd (upd H1 p (.lst [])) p1 (.lst [])) oe (.lst [.ref p,.ref p1]) p1=some (.lst []):=by rw [upd_ne e3,upd_same]
  have g3:upd (upd (upd H1 p (.lst [])) p1 (.lst [])) oe (.lst [.ref p,.ref p1]) oe=some (.lst [.ref p,.ref p1]):=upd_same
  have np1':=u1.free np1
  have noe':=u2.free noe
  generalize upd (upd (upd H1 p (.lst [])) p1 (.lst [])) oe (.lst [.ref p,.ref p1])=H3 at u3 g1 g2 g3 ⊢
  clear np1 noe u1 u2
  generalize hA:(fun u:Bool=>if u then p1 else p)=g
  have A0:g false=p:=by rw [<-hA];rfl
  have A1:g true=p1:=by rw [<-hA];rfl
  have gA:∀ u,H3 (g u)=some (.lst []):=fun u=>by cases u;rw [A0];exact g1;rw [A1];exact g2
  have nA:∀ u,H1 (g u)=none:=fun u=>by cases u;rw [A0];exact np;rw [A1];exact np1'
  have oA:∀ u,oe≠g u:=fun u=>by cases u;rw [A0];exact e2.symm;rw [A1];exact e3.symm
  have rA:∀ u,rl≠g u:=fun u=>ne_of_none hrl (nA u)
  rw [<-A0,<-A1] at g3 e1
  have hrl3:=u3 _ _ hrl
  have hm3:MazeAt H3 m o b ns:=(hm.same s1).same u3
  have nfd:=s1.free noe'
  have nfA:∀ u,H (g u)=none:=fun u=>s1.free (nA u)
  have s13:=s1.trans u3
  refine cut_intro (fun σ H'=>σ=[some (.ref m),some (.ref rl),some (.ref oe),some (.int (if b then 1 else 0)),none]/\H3=H') ?_ ?_
  ·walk_at "wp"
   refine⟨_,_,SqT.of hm3.1,rfl,?_⟩
   walk_at "wp"
   simp only [sd_r]
   exact⟨by first | rfl | trivial,by first | rfl | trivial⟩
  rintro σ' H' ⟨rfl,rfl⟩
  walk_at "wp"
  have hlr:((rowsZ ns).map V.int).length=ns.length+2:=by rw [List.length_map,rowsZ_len]
  refine⟨_,.inl (SqL.of hrl3),⟨by omega,by omega,by omega,by omega⟩,?_⟩
  have en:((((rowsZ ns).map V.int).length:Int) - 1).toNat=ns.length+1:=by omega
  rw [en]
  refine for_range (n:=ns.length+1) (fun i σ H'=>∃ x4:Option V,σ=[some (.ref m),some (.ref rl),some (.ref oe),some (.int (if (b ^^ odd i) then 1 else 0)),x4]/\Same H H'/\H' rl=some (.lst ((rowsZ ns).map V.int))/\H' oe=some (.lst [.ref (g false),.ref (g true)])/\∀ u,BowsAt H' (g u) (sideBows b ns u i))
   ⟨none,by rw [show odd 0=false from rfl,Bool.xor_false],s13,hrl3,g3,fun u=>⟨[],gA u,.nil⟩⟩ ?_ ?_
  ·rintro i σ H4 hi ⟨x4,rfl,sm,hr4,ho4,hb4⟩
   have ek:(1:Int) - (if (b ^^ odd i) then 1 else 0)=if (b ^^ odd (i+1)) then 1 else 0:=by
    rw [odd_succ]
    cases b<;>cases odd i<;>rfl
   have at1:atI ((rowsZ ns).map V.int) (1+(i:Int) - 1)=some (.int (rowZ ns i)):=by
    rw [show (1:Int)+i - 1=(i:Int) by omega]
    exact atI_nat (by rw [List.getElem?_map,rowZ_get (by omega)];rfl)
   have at2:atI ((rowsZ ns).map V.int) (1+(i:Int))=some (.int (rowZ ns (i+1))):=by
    rw [show (1:Int)+i=((i+1:Nat):Int) by omega]
    exact atI_nat (by rw [List.getElem?_map,rowZ_get (by omega)];rfl)
   walk_at "wp"
   obtain⟨as,a1,a2⟩:=id (hb4 (b ^^ odd i))
   have la:as.length=(sideBows b ns (b ^^ odd i) i).length:=Paired.length a2
   have hlb:=sideBows_len b ns (b ^^ odd i) i
   refine⟨_,.ref (g (b ^^ odd i)),SqL.of ho4,by cases (b ^^ odd i)<;>rfl,w_tyL a1,_,_,SqL.of hr4,at1,_,_,SqL.of hr4,at2,_,_,rfl,_,_,SqL.of hr4,at1,_,_,SqL.of hr4,at2,_,_,rfl,(by show 2<=sizeLine;decide),fun t nt=>?_⟩
   have emin:(if rowZ ns (i+1)<rowZ ns i then rowZ ns (i+1) else rowZ ns i)=(stepB ns i).1:=by
    show _=min (rowZ ns i) (rowZ ns (i+1))
    rw [Int.min_def];split<;>split<;>omega
   have emax:(if rowZ ns (i+1) > rowZ ns i then rowZ ns (i+1) else rowZ ns i)=(stepB ns i).2:=by
    show _=max (rowZ ns i) (rowZ ns (i+1))
    rw [Int.max_def];split<;>split<;>omega
   rw [emin,emax]
   have s5:=(Same.refl H4).new (o:=.tup [.int (stepB ns i).1,.int (stepB ns i).2]) nt
   have t5:tupAt (upd H4 t (.tup [.int (stepB ns i).1,.int (stepB ns i).2])) t (stepB ns i):=upd_same
   have a15:=s5 _ _ a1
   refine⟨g (b ^^ odd i),_,_,rfl,rfl,a15,by rw [List.length_map];exact small1000 (by omega),_,by rw [ek],(sm.trans s5).new (nfA _),by rw [upd_ne (rA _)];exact s5 _ _ hr4,by rw [upd_ne (oA _)];exact s5 _ _ ho4,fun u=>?_⟩
   by_cases z:u=(b ^^ odd i)
   ·subst z
    rw [sideBows_yes (onSide_self b i)]
    exact bows_push a15 (Paired.mapP a2 fun a q w=>w.same s5) t5
   ·have z':u=!(b ^^ odd i):=by revert z;cases u<;>cases (b ^^ odd i)<;>decide
    have gne:g u≠g (b ^^ odd i):=by
     cases u<;>cases hq:(b ^^ odd i)<;>first | exact absurd hq.symm z | exact e1 | exact e1.symm
    rw [z',sideBows_no (onSide_other b i),<-z']
    exact bows_upd ((hb4 u).same s5) a15 gne
  ·rintro σ H4 ⟨x4,rfl,sm,hr4,ho4,hb4⟩
   walk_at "wp"
   exact q oe g H4 nfd nfA sm ho4 hb4 e1
theorem ok_tall (B:Blt mg) (E:Fn K mg "_law_tall" s_tall ["_law_bows_here"]):Def P w K mg base 1 "_law_tall" s_tall ["_law_bows_here"] spTall:=E.mk' fun f fd F=>by
 refine F.okS sc_tall (fun vs H Q E h=>?_) (fun cdv A outer s H vs Q E hr h=>?_)
 ·obtain⟨l,S,rfl,_⟩:=h
  rfl
 ·obtain⟨l,S,rfl,hb,BS,h21,q⟩:=h
  refine⟨[some (.ref l),none,none,none,none],_,rfl,(L2.QSs.h (qpss_cons (qps_set (i:=1) sc_tall.nd rfl (Or.inl rfl) qpe_dnewT)
   (qpss_cons (qps_for PassesOwn.never rfl (qpi_range2 (by rfl) B.range (qpa_Constant qpe_int (qpa_Constant qpe_int qpa_nil))) (qpg_name (i:=2) sc_tall.nd rfl (Or.inl rfl))
   (qpss_one (qps_for PassesOwn.never rfl (qpi_list (qpv 0)) (qpg_name (i:=3) sc_tall.nd rfl (Or.inl rfl))
    (qpss_one (qps_if (qpt_cmpR op_eq (qpe_op op_sub (qpe_ix ix_tup (qpv 3) qpe_int (fun _ _=>rfl)) (qpe_ix ix_tup (qpv 3) qpe_int (fun _ _=>rfl))) (qpv 2) (nomark _))
     (qpss_cons (qps_dput (hu_1 hr) (qpv 1) (qpv 3) qpe_int rfl)
      (qpss_one (qps_for PassesOwn.never rfl (qpi_list (qpe_callTy (call_list_dict rfl) (by rfl) B.list PyProof.Rows.boot_list (qpa_Name (qpv 1) qpa_nil))) (qpg_name (i:=4) sc_tall.nd rfl (Or.inl rfl))
      (qpss_one (qps_if (QW.pt (qpw_and (qpt_cmpR op_lt (qpe_ix ix_tup (qpv 3) qpe_int (fun _ _=>rfl)) (qpe_ix ix_tup (qpv 4) qpe_int (fun _ _=>rfl)) (nomark _)) (qpw_and1 (qpt_cmpR op_lt (qpe_ix ix_tup (qpv 4) qpe_int (fun _ _=>rfl)) (qpe_ix ix_tup (qpv 3) qpe_int (fun _ _=>rfl)) (nomark _)))))
       (qpss_one (qps_dput (hu_1 hr) (qpv 1) (qpv 3) (qpe_callB (call_max2 rfl) (by rfl) B.max PyProof.Rows.boot_max (qpa_Subscript (qpe_dget (hu_1 hr) (qpv 1) (qpv 3) (fun _ _=>rfl)) (qpa_BinOp (qpe_op op_add (qpe_dget (hu_1 hr) (qpv 1) (qpv 4) (fun _ _=>rfl)) qpe_int) qpa_nil))) rfl))
       qpss_nil)))))
     qpss_nil)))))
   (qpss_one (qps_ret (qpv 1)))))),?_⟩
  obtain⟨as,b1,bl,bg⟩:=hb.get
  have S40:=BS.len
  walk_at "wp"
  intro d nd
  have s0:=(Same.refl H).new (o:=.dT []) nd
  walk_at "wp"
  refine⟨⟨by decide,by decide,by decide,by decide⟩,?_⟩
  rw [show ((22:Int) - 1).toNat=21 from rfl]
  refine for_range (n:=21) (fun i σ H'=>∃ (x2 x3 x4:Option V) (ps:List Bw),σ=[some (.ref l),some (.ref d),x2,x3,x4]/\Same H H'/\ps.length<=S.length/\(∀ p,p∈ps<->p∈S/\p.2 - p.1<1+(i:Int))/\H' d=some (.dT (tkv (hF S) ps))/\ps.Nodup) ⟨_,_,_,[],rfl,s0,Nat.zero_le _,fun p=>⟨fun z=>(nomatch z),fun z=>by have:=BS.lt p z.1;omega⟩,upd_same,.nil⟩ ?_ ?_
  ·rintro i σ H1 hi ⟨x2,x3,x4,ps,rfl,s1,lps,mps,hd1,nps⟩
   walk_at "wp"
   refine⟨⟨_,SqL.of (s1 _ _ b1)⟩,for_list (xs:=as.map V.ref) (fun j σ H'=>∃ (x3 x4:Option V) (ps:List Bw),σ=[some (.ref l),some (.ref d),some (.int (1+(i:Int))),x3,x4]/\Same H H'/\ps.length<=S.length/\(∀ p,p∈ps<->p∈S/\(p.2 - p.1<1+(i:Int)\/p.2 - p.1=1+(i:Int)/\p∈S.take j))/\H' d=some (.dT (tkv (hF S) ps))/\ps.Nodup) ⟨x3,x4,ps,rfl,s1,lps,fun p=>by rw [mps];simp,hd1,nps⟩ (fun j σ H' _ ⟨_,_,_,_,h,_⟩=>SqL.of (h _ _ b1)) ?_ ?_⟩
   ·rintro j x σ H2 hx ⟨y3,y4,ps,rfl,s2,lps,mps,hd2,nps⟩
    obtain⟨a,p,rfl,hp,ta⟩:=bg j x hx
    have ta2:=ta.same s2
    have pS:=List.mem_of_getElem? hp
    have plt:=BS.lt p pS
    have etk:S.take (j+1)=S.take j++[p]:=by rw [List.take_add_one,hp];rfl
    have pj:p∉S.take j:=fun h=>by
     obtain⟨k,hk⟩:=List.getElem?_of_mem h
     have kl:=(List.getElem?_eq_some_iff.mp hk).1
     rw [List.length_take] at kl
     rw [List.getElem?_take_of_lt (by omega)] at hk
     have h1:=List.getElem?_eq_some_iff.mp hk
     have h2:=List.getElem?_eq_some_iff.mp hp
     have:=(List.getElem_inj BS.nd (h₀:=h1.1) (h₁:=h2.1)).mp (h1.2.trans h2.2.symm)
     omega
    walk_at "wp"
    refine⟨_,_,SqT.of ta2,rfl,_,_,SqT.of ta2,rfl,?_⟩
    walk_at "wp"
    refine ite2 (fun e=>?_) (fun e=>?_)
    ·have pn:p∉ps:=fun z=>by
      rcases ((mps p).mp z).2 with z | z
      ·omega
      ·exact pj z.2
     have tk0:∀ v,valV (tkv (hF S) ps++[(bK p,v)]) (bK p)=some v:=fun v=>by rw [valV_snoc _ _ _ _ (tkv_no pn),if_pos rfl]
     have tkl:(tkv (hF S) ps).length=ps.length:=List.length_map ..
     have da:d≠a:=fun e=>by rw [e] at hd2;rw [show H2 a=_ from ta2] at hd2;cases hd2
     refine⟨_,DPut.t (k:=bK p) hd2 ta2 (small1000 (by omega)),?_⟩
     rw [putK_new _ (tkv_no pn)]
     have ta3:tupAt (upd H2 d (.dT (tkv (hF S) ps++[(bK p,.int 1)]))) a p:=by
      show upd H2 d _ a=_
      rw [upd_ne da.symm];exact ta2
     have s3:Same H (upd H2 d (.dT (tkv (hF S) ps++[(bK p,.int 1)]))):=s2.new nd
     have hd3:upd H2 d (.dT (tkv (hF S) ps++[(bK p,.int 1)])) d=some (.dT (tkv (hF S) ps++[(bK p,.int 1)])):=upd_same
     generalize upd H2 d (.dT (tkv (hF S) ps++[(bK p,.int 1)]))=H3 at ta3 s3 hd3 ⊢
     refine⟨_,hd3,fun L as2 nL pr=>?_⟩
     have s4:=(Same.refl H3).new (o:=.lst (as2.map V.ref)) nL
     have hL:upd H3 L (.lst (as2.map V.ref)) L=some (.lst (as2.map V.ref)):=upd_same
     have Ld:L≠d:=(ne_of_none hd3 nL).symm
     have ta4:=ta3.same s4
     have hd4:=s4 _ _ hd3
     have pr4:Paired (fun (a:Addr) (kv:List Key×V)=>upd H3 L (.lst (as2.map V.ref)) a=some (.tup (kv.1.map kV))) as2 (tkv (hF S) ps++[(bK p,.int 1)]):=Paired.mapP pr fun a kv z=>s4 _ _ z
     have s34:=s3.trans s4
     generalize upd H3 L (.lst (as2.map V.ref))=H4 at hL ta4 hd4 pr4 s34 ⊢
     have keys:∀ (k:Nat) x,(as2.map V.ref)[k]? = some x->∃ a2 q,x=.ref a2/\(ps++[p])[k]? = some q/\tupAt H4 a2 q:=fun k x hx=>by
      obtain⟨a2,h2,rfl⟩:=got_map hx
      obtain⟨kv,hkv,e2⟩:=pair_get pr4 h2
      have e3:((tkv (hF S) ps++[(bK p,V.int 1)]).map (·.1))[k]? = some kv.1:=by rw [List.getElem?_map,hkv];rfl
      have e4:(tkv (hF S) ps++[(bK p,V.int 1)]).map (·.1)=(ps++[p]).map bK:=by unfold tkv;rw [List.map_append,List.map_append,List.map_map];rfl
      rw [e4,List.getElem?_map] at e3
      obtain⟨q,hq,eq⟩:=Option.map_eq_some_iff.mp e3
      rw [<-eq] at e2
      exact⟨a2,q,rfl,hq,e2⟩
     refine⟨⟨_,SqL.of hL⟩,for_list (xs:=as2.map V.ref) (fun k σ H'=>∃ (x4:Option V) (v:Nat),σ=[some (.ref l),some (.ref d),some (.int (1+(i:Int))),some (.ref a),x4]/\Keeps [d] H4 H'/\H' d=some (.dT (tkv (hF S) ps++[(bK p,.int (v:Nat))]))/\1<=v/\v<=hF S p/\∀ q∈(ps++[p]).take k,inZ q p=true->hF S q+1<=v) ⟨_,1,rfl,Keeps.refl _ _,hd4,Nat.le_refl _,?_,fun q hq=>by simp at hq⟩ (fun k σ H' _ ⟨_,_,_,kp,_⟩=>SqL.of (kp _ _ (by simpa using Ld) hL)) ?_ ?_⟩
     ·rw [hF_eq BS.lt plt];omega
     ·rintro k x σ H5 hx ⟨z4,v,rfl,kp,hd5,v1,v2,v3⟩
      obtain⟨a2,q,rfl,hq,tq⟩:=keys k x hx
      have da2:a2≠d:=fun e=>by rw [e] at tq;rw [show H4 d=_ from tq] at hd4;cases hd4
      have da:a≠d:=da.symm
      have tq5:tupAt H5 a2 q:=kp _ _ (by simpa using da2) tq
      have ta5:tupAt H5 a p:=kp _ _ (by simpa using da) ta4
      have tk:(ps++[p]).take (k+1)=(ps++[p]).take k++[q]:=by rw [List.take_add_one,hq];rfl
      have nx:(inZ q p=true->hF S q+1<=v)->∃ (x4:Option V) (v':Nat),[some (V.ref l),some (V.ref d),some (V.int (1+(i:Int))),some (V.ref a),some (V.ref a2)]=[some (V.ref l),some (V.ref d),some (V.int (1+(i:Int))),some (V.ref a),x4]/\Keeps [d] H4 H5/\H5 d=some (.dT (tkv (hF S) ps++[(bK p,.int (v':Nat))]))/\1<=v'/\v'<=hF S p/\∀ q∈(ps++[p]).take (k+1),inZ q p=true->hF S q+1<=v':=fun hv=>by
       refine⟨_,v,rfl,kp,hd5,v1,v2,fun q' hq' hz=>?_⟩
       rw [tk] at hq'
       rcases List.mem_append.mp hq' with h | h
       ·exact v3 q' h hz
       ·have e:q'=q:=by simpa using h
        subst e
        exact hv hz
      walk_at "wp"
      refine⟨_,_,SqT.of ta5,rfl,_,_,SqT.of tq5,rfl,?_⟩
      walk_at "wp"
      refine ite2 (fun c1=>?_) (fun c1=>by simpa using nx fun z=>by unfold inZ at z;simp only [Bool.and_eq_true,decide_eq_true_eq] at z;omega)
      refine⟨_,_,SqT.of tq5,rfl,_,_,SqT.of ta5,rfl,?_⟩
      walk_at "wp"
      refine ite2 (fun c2=>?_) (fun c2=>by simpa using nx fun z=>by unfold inZ at z;simp only [Bool.and_eq_true,decide_eq_true_eq] at z;omega)
      have hz:inZ q p=true:=by unfold inZ;rw [decide_eq_true c1,decide_eq_true c2];rfl
      have qp:q≠p:=fun e=>by rw [e] at c1;omega
      have qps:q∈ps:=by
       rcases List.mem_append.mp (List.mem_of_getElem? hq) with h | h
       ·exact h
       ·exact absurd (by simpa using h) qp
      have qS:q∈S:=((mps q).mp qps).1
      have g1:valV (tkv (hF S) ps++[(bK p,V.int (v:Nat))]) (bK q)=some (.int (hF S q:Nat)):=by rw [valV_snoc _ _ _ _ (tkv_no pn),if_neg fun e=>qp (bK_inj e)];exact tkv_at qps
      have dg0:=DGet.t (k:=bK p) hd5 ta5
      rw [tk0] at dg0
      have dg1:=DGet.t (k:=bK q) hd5 tq5
      rw [g1] at dg1
      refine⟨_,dg0,_,dg1,?_⟩
      walk_at "wp"
      have em:(if ((hF S q:Nat):Int)+1 > (v:Nat) then ((hF S q:Nat):Int)+1 else (v:Nat))=((max v (hF S q+1):Nat):Int):=by split<;>omega
      refine⟨_,DPut.t (k:=bK p) hd5 ta5 (small1000 (by rw [List.length_append,tkl,List.length_singleton];omega)),_,max v (hF S q+1),rfl,kp.trans (Keeps.upd (by simp)),?_,by omega,?_,fun q' hq' hz'=>?_⟩
      ·rw [upd_same,put_last (tkv_no pn),em]
      ·have:=tall_step BS.lt plt qS hz
       omega
      ·rw [tk] at hq'
       rcases List.mem_append.mp hq' with h | h
       ·have:=v3 q' h hz';omega
       ·rw [show q'=q by simpa using h];omega
     ·rintro σ H5 ⟨z4,v,rfl,kp,hd5,v1,v2,v3⟩
      have ev:v=hF S p:=tall_end BS.lt plt v1 v2 fun q hq hz=>by
       have lk:(as2.map V.ref).length=(ps++[p]).length:=by
        rw [List.length_map,Paired.length pr4,List.length_append,tkl,List.length_append];rfl
       rw [lk,List.take_length] at v3
       refine v3 q (List.mem_append_left _ ((mps q).mpr ⟨hq,.inl ?_⟩)) hz
       unfold inZ at hz
       simp only [Bool.and_eq_true,decide_eq_true_eq] at hz
       omega
      subst ev
      refine⟨_,_,ps++[p],rfl,?_,?_,fun p'=>?_,?_,?_⟩
      ·intro b o hbo
       have:b≠d:=fun e=>by rw [e] at hbo;rw [nd] at hbo;cases hbo
       exact kp _ _ (by simpa using this) (s34 _ _ hbo)
      ·have sub:(ps++[p]).Nodup:=by
        rw [List.nodup_append]
        exact⟨nps,by simp,fun a ha b hb=>by rw [show b=p by simpa using hb];exact fun e=>pn (e▸ha)⟩
       refine List.Nodup.length_le_of_subset sub fun x hx=>?_
       rcases List.mem_append.mp hx with h | h
       ·exact ((mps x).mp h).1
       ·rw [show x=p by simpa using h];exact pS
      ·rw [etk]
       constructor
       ·intro h
        rcases List.mem_append.mp h with h | h
        ·obtain⟨h1,h2⟩:=(mps p').mp h
         exact⟨h1,h2.imp id fun z=>⟨z.1,List.mem_append_left _ z.2⟩⟩
        ·rw [show p'=p by simpa using h]
         exact⟨pS,.inr ⟨e,by simp⟩⟩
       ·rintro⟨h1,h2 | ⟨h2,h3⟩⟩
        ·exact List.mem_append_left _ ((mps p').mpr ⟨h1,.inl h2⟩)
        ·rcases List.mem_append.mp h3 with h | h
         ·exact List.mem_append_left _ ((mps p').mpr ⟨h1,.inr ⟨h2,h⟩⟩)
         ·exact List.mem_append_right _ h
      ·rw [hd5];unfold tkv;rw [List.map_append];rfl
      ·rw [List.nodup_append]
       exact⟨nps,by simp,fun a ha b hb=>by rw [show b=p by simpa using hb];exact fun e=>pn (e▸ha)⟩
    ·refine⟨_,y4,ps,rfl,s2,lps,fun p'=>?_,hd2,nps⟩
     rw [mps,etk]
     constructor
     ·rintro⟨h1,h2⟩
      exact⟨h1,h2.imp id fun z=>⟨z.1,List.mem_append_left _ z.2⟩⟩
     ·rintro⟨h1,h2 | ⟨h2,h3⟩⟩
      ·exact⟨h1,.inl h2⟩
      ·rcases List.mem_append.mp h3 with h | h
       ·exact⟨h1,.inr ⟨h2,h⟩⟩
       ·rw [show p'=p by simpa using h] at h2
        exact absurd h2 e
   ·rintro σ H2 ⟨y3,y4,ps,rfl,s2,lps,mps,hd2,nps⟩
    refine⟨_,y3,y4,ps,rfl,s2,lps,fun p=>?_,hd2,nps⟩
    rw [mps,List.length_map,bl,List.take_length]
    constructor
    ·rintro⟨h1,h2 | h2⟩
     ·exact⟨h1,by omega⟩
     ·exact⟨h1,by omega⟩
    ·rintro⟨h1,h2⟩
     exact⟨h1,by by_cases z:p.2 - p.1<1+(i:Int);exact .inl z;exact .inr ⟨by omega,h1⟩⟩
  ·rintro σ H1 ⟨x2,x3,x4,ps,rfl,s1,lps,mps,hd1,nps⟩
   walk_at "wp"
   exact q d ps H1 nd s1 (fun p=>by rw [mps];exact⟨fun z=>z.1,fun z=>⟨z,by have:=h21 p z;omega⟩⟩) (by omega) hd1
theorem ok_drawing (B:Blt mg) (E:Fn K mg "_law_drawing" s_drawing ["_law_maze"]) (D_bows:Def P w K mg base 1 "_law_bows" s_bows ["_law_maze"] spBowsL) (D_tall:Def P w K mg base 1 "_law_tall" s_tall ["_law_bows_here"] spTall):Def P w K mg base 2 "_law_drawing" s_drawing ["_law_maze"] spDrawing:=E.mk' fun f fd F=>by
 refine F.okS sc_drawing (fun vs H Q E h=>?_) (fun cdv A outer s H vs Q E hr h=>?_)
 ·obtain⟨m,o,b,ns,rfl,_⟩:=h
  rfl
 ·obtain⟨m,o,b,ns,rfl,hm,O,q⟩:=h
  refine⟨[some (.ref m),none,none,none,none,none,none,none,none,none,none,none,none,none,none],_,rfl,(L2.QSs.h (qpss_cons (qps_set (i:=1) sc_drawing.nd rfl (Or.inl rfl) (qpe_callD D_bows (hr.mono (by decide)) (by rfl) (qpa_Name (qpv 0) qpa_nil)))
   (qpss_cut (qps_set (i:=2) sc_drawing.nd rfl (Or.inl rfl) (qpe_lst (qpa_Call (qpe_callD D_tall (hr.mono (by decide)) (by rfl) (qpa_Subscript (qpe_ix ix_list (qpv 1) qpe_int (fun _ _=>rfl)) qpa_nil)) (qpa_Call (qpe_callD D_tall (hr.mono (by decide)) (by rfl) (qpa_Subscript (qpe_ix ix_list (qpv 1) qpe_int (fun _ _=>rfl)) qpa_nil)) qpa_nil))))
   (qpss_cut (qps_set (i:=3) sc_drawing.nd rfl (Or.inl rfl) (qpe_op op_mul qpe_int (qpe_callB (call_max_l rfl) (by rfl) B.max PyProof.Rows.boot_max (qpa_BinOp (qpe_op op_cat (qpe_lst (qpa_Constant qpe_int qpa_nil)) (qpe_callTy (call_list_vals rfl) (by rfl) B.list PyProof.Rows.boot_list (qpa_Call (qpe_bm0 PySem.F.plainAttrs_dict PySem.F.slot_dict_values PySem.F.type_dict_values mt_values (qpe_ix ix_list (qpv 2) qpe_int (fun _ _=>rfl))) qpa_nil))) qpa_nil))))
   (qpss_cut (qps_set (i:=4) sc_drawing.nd rfl (Or.inl rfl) (qpe_op op_add (qpe_op op_add (qpv 3) (qpe_op op_mul qpe_int (qpe_callB (call_max_l rfl) (by rfl) B.max PyProof.Rows.boot_max (qpa_BinOp (qpe_op op_cat (qpe_lst (qpa_Constant qpe_int qpa_nil)) (qpe_callTy (call_list_vals rfl) (by rfl) B.list PyProof.Rows.boot_list (qpa_Call (qpe_bm0 PySem.F.plainAttrs_dict PySem.F.slot_dict_values PySem.F.type_dict_values mt_values (qpe_ix ix_list (qpv 2) qpe_int (fun _ _=>rfl))) qpa_nil))) qpa_nil)))) qpe_int))
   (qpss_cons (qps_set (i:=5) sc_drawing.nd rfl (Or.inl rfl) (qpe_op op_add (qpe_callB call_len_seq (by rfl) B.len PySem.boot_len (qpa_Subscript (qpe_ix ix_tup (qpv 0) qpe_int (fun _ _=>rfl)) qpa_nil)) qpe_int))
   (qpss_cons (qps_set (i:=6) sc_drawing.nd rfl (Or.inr rfl) qpe_dnewT)
   (qpss_cut (qps_set (i:=7) sc_drawing.nd rfl (Or.inl rfl) (qpe_lst (qpa_Dict qpe_dnewK (qpa_Dict qpe_dnewK qpa_nil))))
   (qpss_cut (qps_for PassesOwn.never rfl (qpi_range1 (by rfl) B.range (qpa_Constant qpe_int qpa_nil)) (qpg_name (i:=8) sc_drawing.nd rfl (Or.inl rfl))
   (qpss_one (qps_for PassesOwn.never rfl (qpi_list (qpe_ix ix_list (qpv 1) (qpv 8) (fun _ _=>rfl))) (qpg_name (i:=9) sc_drawing.nd rfl (Or.inl rfl))
    (qpss_cons (qps_set (i:=10) sc_drawing.nd rfl (Or.inl rfl) (qpe_op op_add (qpv 3) (qpe_op op_mul (qpe_op op_sub (qpe_op op_mul qpe_int (qpe_dget (hu_1 hr) (qpe_ix ix_list (qpv 2) (qpv 8) (fun _ _=>rfl)) (qpv 9) (fun _ _=>rfl))) qpe_int) (qpe_op op_sub (qpe_op op_mul qpe_int (qpv 8)) qpe_int))))
     (qpss_cons (qps_dput (hu_1 hr) (qpe_ix ix_list (qpv 7) (qpv 8) (fun _ _=>rfl)) (qpe_ix ix_tup (qpv 9) qpe_int (fun _ _=>rfl)) (qpv 10) rfl)
     (qpss_cons (qps_dput (hu_1 hr) (qpe_ix ix_list (qpv 7) (qpv 8) (fun _ _=>rfl)) (qpe_ix ix_tup (qpv 9) qpe_int (fun _ _=>rfl)) (qpv 10) rfl)
     (qpss_cut (qps_for PassesOwn.never rfl (qpi_range2 (by rfl) B.range (qpa_BinOp (qpe_op op_add (qpe_op op_mul qpe_int (qpe_ix ix_tup (qpv 9) qpe_int (fun _ _=>rfl))) qpe_int) (qpa_BinOp (qpe_op op_add (qpe_op op_mul qpe_int (qpe_ix ix_tup (qpv 9) qpe_int (fun _ _=>rfl))) qpe_int) qpa_nil))) (qpg_name (i:=11) sc_drawing.nd rfl (Or.inr rfl))
     (qpss_one (qps_dput (hu_1 hr) (qpv 6) (qpe_tup (qpa_Name (qpv 11) (qpa_Name (qpv 10) qpa_nil))) qpe_str rfl)))
     (qpss_one (qps_for PassesOwn.never rfl (qpi_tup (qpv 9)) (qpg_name (i:=12) sc_drawing.nd rfl (Or.inl rfl))
     (qpss_cons (qps_if (qpt_cmpR op_eq (qpv 12) qpe_int (nomark _))
      (qpss_one (qps_dput (hu_1 hr) (qpv 6) (qpe_tup (qpa_Constant qpe_int (qpa_Name (qpv 10) qpa_nil))) qpe_str rfl))
      qpss_nil)
      (qpss_one (qps_if (qpt_cmpR op_eq (qpv 12) (qpv 5) (nomark _))
      (qpss_one (qps_dput (hu_1 hr) (qpv 6) (qpe_tup (qpa_BinOp (qpe_op op_add (qpe_op op_mul qpe_int (qpv 5)) qpe_int) (qpa_Name (qpv 10) qpa_nil))) qpe_str rfl))
      qpss_nil))))))))))))
   (qpss_cut (qps_for PassesOwn.never rfl (qpi_tup (qpe_ix ix_tup (qpv 0) qpe_int (fun _ _=>rfl))) (qpg_name (i:=13) sc_drawing.nd rfl (Or.inl rfl))
   (qpss_one (qps_for PassesOwn.never rfl (qpi_range2 (by rfl) B.range (qpa_Subscript (qpe_dget (hu_1 hr) (qpe_ix ix_list (qpv 7) qpe_int (fun _ _=>rfl)) (qpv 13) (fun _ _=>rfl)) (qpa_BinOp (qpe_op op_add (qpe_dget (hu_1 hr) (qpe_ix ix_list (qpv 7) qpe_int (fun _ _=>rfl)) (qpv 13) (fun _ _=>rfl)) qpe_int) qpa_nil))) (qpg_name (i:=10) sc_drawing.nd rfl (Or.inl rfl))
    (qpss_one (qps_dput (hu_1 hr) (qpv 6) (qpe_tup (qpa_BinOp (qpe_op op_add (qpe_op op_mul qpe_int (qpv 13)) qpe_int) (qpa_Name (qpv 10) qpa_nil))) qpe_str rfl)))))
   (qpss_cons (qps_set (i:=14) sc_drawing.nd rfl (Or.inl rfl) (qpe_lst qpa_nil))
   (qpss_cut (qps_for PassesOwn.never rfl (qpi_range1 (by rfl) B.range (qpa_BinOp (qpe_op op_add (qpe_op op_mul qpe_int (qpv 5)) qpe_int) qpa_nil)) (qpg_name (i:=11) sc_drawing.nd rfl (Or.inr rfl))
   (qpss_one (qps_expr (qpe_bm PySem.F.plainAttrs_list PySem.F.slot_list_append PySem.F.type_list_append mt_append (qpv 14) (qpa_Call (qpe_bm PySem.F.plainAttrs_str PySem.F.slot_str_join PySem.F.type_str_join mt_join qpe_str (qpa_ListComp (qpe_comp (own:=["_law_column"]) (ns:=["_law_signs","_law_line"]) (caps:=[6,11]) rfl ⟨rfl,by decide +kernel,by decide +kernel,by decide +kernel⟩ (.cons rfl rfl (.inl rfl) (.cons rfl rfl (.inl rfl) .nil)) (qpi_range1 (by rfl) B.range (qpa_Name (qpv 4) qpa_nil)) (fun C s H fp pn=>(qpg_name (i:=0) (show List.Nodup ((["_law_column"]:List Str)++(["_law_signs","_law_line"]:List Str)) by decide +kernel) rfl (Or.inl rfl))) (fun C s H fp pn=>qpf_nil) (fun C s H fp pn=>(qpe_dget2 (hu_1 hr) (qpv 1) (qpe_tup (qpa_Name (qpv 2) (qpa_Name (qpv 0) qpa_nil))) qpe_str ⟨by rfl,by rfl,by rfl,by rfl⟩))) qpa_nil)) qpa_nil)))))
   (qpss_one (qps_ret (qpe_bm PySem.F.plainAttrs_str PySem.F.slot_str_join PySem.F.type_str_join mt_join qpe_str (qpa_Name (qpv 14) qpa_nil)))))))))))))))),?_⟩
  have l20:=O.len
  have two:(2:Nat)<=sizeLine:=by decide
  have dotV:V.str (Str.ofString ".")=sg1 46:=by unfold sg1;rw [show Str.ofString "."=(⟨#[46]⟩:Str) by decide +kernel]
  have vV:V.str (Str.ofString "v")=sg1 118:=by unfold sg1;rw [show Str.ofString "v"=(⟨#[118]⟩:Str) by decide +kernel]
  have mV:V.str (Str.ofString "@")=sg1 64:=by unfold sg1;rw [show Str.ofString "@"=(⟨#[64]⟩:Str) by decide +kernel]
  have BS:=fun u=>bws_side (b:=b) O u
  have mx0:=fun u=>side_mx (b:=b) O u
  have bd:∀ u,∀ p∈sdS b ns u,0<=p.1/\p.2<=(ns.length:Int)+1/\p.1<p.2:=fun u p hp=>by
   obtain⟨j,hj,_,rfl⟩:=side_mem hp
   have h1:=O.step_in (i:=j) (by omega)
   have h2:=O.step_lt (i:=j) (by omega)
   exact⟨h1.1,h1.2,h2⟩
  walk_at "wp"
  refine⟨m,o,b,ns,rfl,hm,by omega,fun bl g H1 nf ng s1 hf hb ne=>?_⟩
  have hm1:=hm.same s1
  have hb:∀ u,BowsAt H1 (g u) (sdS b ns u):=hb
  refine cut_intro (fun σ H'=>∃ (tl:Addr) (t:Bool->Addr) (ps:Bool->List Bw),σ=[some (.ref m),some (.ref bl),some (.ref tl),none,none,none,none,none,none,none,none,none,none,none,none]/\Same H1 H'/\H' tl=some (.lst [.ref (t false),.ref (t true)])/\(∀ u p,p∈ps u<->p∈sdS b ns u)/\(∀ u,(ps u).length<=40)/\∀ u,H' (t u)=some (.dT (tkv (hF (sdS b ns u)) (ps u)))) ?_ ?_
  ·walk_at "wp"
   have sp:∀ u,∀ p∈sdS b ns u,p.2 - p.1<=21:=fun u p hp=>by have:=bd u p hp;omega
   refine⟨_,_,SqL.of hf,rfl,g false,sdS b ns false,rfl,hb false,BS false,sp false,fun t0 ps0 Ha nt0 sa m0 l0 ht0=>⟨_,_,SqL.of (sa _ _ hf),rfl,g true,sdS b ns true,rfl,(hb true).same sa,BS true,sp true,fun t1 ps1 Hb nt1 sb m1 l1 ht1=>⟨two,fun p np=>?_⟩⟩⟩
   have sc:=(Same.refl Hb).new (o:=.lst [.ref t0,.ref t1]) np
   exact⟨p,fun u=>if u then t1 else t0,fun u=>if u then ps1 else ps0,rfl,sa.trans (sb.trans sc),upd_same,fun u=>by cases u;exact m0;exact m1,fun u=>by cases u;exact l0;exact l1,fun u=>by cases u;exact (sb.trans sc) _ _ ht0;exact sc _ _ ht1⟩
  rintro σ H2 ⟨tl,t,ps,rfl,s2,htl,mps,lps,ht⟩
  have hvals:∀ u,(tkv (hF (sdS b ns u)) (ps u)).map (·.2)=((ps u).map fun p=>((hF (sdS b ns u) p:Nat):Int)).map V.int:=fun u=>by unfold tkv;rw [List.map_map,List.map_map];rfl
  have mxv:∀ (u:Bool) (H0 H1:Hp) (p:Addr) (Q':VK),H0 tl=some (.lst [.ref (t false),.ref (t true)])->(∀ u,H0 (t u)=some (.dT (tkv (hF (sdS b ns u)) (ps u))))->H0 p=none->H1=upd H0 p (.lst [.int 0])->(∀ H',Same H0 H'->Q' (.int (mxH (sdS b ns u):Nat)) H')->tyV K "dict" (.ref (t u)) H1/\rValues (.ref (t u)) [] H1 fun x H1=>rListV [x] H1 fun y H2=>rCat (.ref p) y H2 fun x H1=>rMaxL K [x] H1 Q':=by
   rintro u H0 _ p Q' h1 h2 np rfl hq
   have v1:=(Same.refl H0).new (o:=.lst [.int 0]) np
   refine⟨.inr (.inr (.inl ⟨rfl,.inr ⟨_,v1 _ _ (h2 u)⟩⟩)),t u,_,rfl,rfl,v1 _ _ (h2 u),fun vw nvw=>?_⟩
   have v2:=v1.trans ((Same.refl _).new (o:=viewO (t u)) nvw)
   have hp2:upd (upd H0 p (.lst [.int 0])) vw (viewO (t u)) p=some (.lst [.int 0]):=(Same.refl _).new (o:=viewO (t u)) nvw _ _ upd_same
   have hv2:upd (upd H0 p (.lst [.int 0])) vw (viewO (t u)) vw=some (viewO (t u)):=upd_same
   generalize upd (upd H0 p (.lst [.int 0])) vw (viewO (t u))=H2' at v2 hp2 hv2 ⊢
   refine⟨vw,t u,_,rfl,hv2,v2 _ _ (h2 u),fun l nl=>?_⟩
   rw [hvals]
   have v3:=(Same.refl H2').new (o:=.lst (((ps u).map fun p=>((hF (sdS b ns u) p:Nat):Int)).map V.int)) nl
   refine⟨p,l,_,_,rfl,rfl,v3 _ _ hp2,upd_same,Nat.le_of_lt (small1000 (by have:=lps u;simp;omega)),fun p3 n3=>?_⟩
   have v4:=(v2.trans v3).trans ((Same.refl _).new (o:=.lst ([.int 0]++((ps u).map fun p=>((hF (sdS b ns u) p:Nat):Int)).map V.int)) n3)
   refine⟨p3,0::(ps u).map (fun p=>((hF (sdS b ns u) p:Nat):Int)),rfl,SqL.of upd_same,Nat.succ_pos _,fun M m1 m2=>?_⟩
   rw [max_vals (mps u) m1 m2]
   exact hq _ v4
  refine cut_intro (fun σ H'=>σ=[some (.ref m),some (.ref bl),some (.ref tl),some (.int (2 * mxH (sdS b ns false):Nat)),none,none,none,none,none,none,none,none,none,none,none]/\Same H2 H') ?_ ?_
  ·walk_at "wp"
   refine⟨(show 1<=sizeLine by decide),fun p np=>?_⟩
   have v1:=(Same.refl H2).new (o:=.lst [.int 0]) np
   refine⟨_,_,SqL.of (v1 _ _ htl),rfl,mxv false H2 _ p _ htl ht np rfl fun H' sm=>?_⟩
   walk_at "wp"
   exact⟨.inl ⟨by decide,by decide⟩,by rw [show ((2 * mxH (sdS b ns false):Nat):Int)=2 * ((mxH (sdS b ns false):Nat):Int) by omega],sm⟩
  rintro σ H3 ⟨rfl,s3⟩
  refine cut_intro (fun σ H'=>σ=[some (.ref m),some (.ref bl),some (.ref tl),some (.int (2 * mxH (sdS b ns false):Nat)),some (.int (widG (sdS b ns false) (sdS b ns true):Nat)),none,none,none,none,none,none,none,none,none,none]/\Same H3 H') ?_ ?_
  ·have htl3:=s3 _ _ htl
   have ht3:=fun u=>s3 _ _ (ht u)
   walk_at "wp"
   refine⟨(show 1<=sizeLine by decide),fun p np=>?_⟩
   have v1:=(Same.refl H3).new (o:=.lst [.int 0]) np
   refine⟨_,_,SqL.of (v1 _ _ htl3),rfl,mxv true H3 _ p _ htl3 ht3 np rfl fun H' sm=>?_⟩
   walk_at "wp"
   exact⟨.inl ⟨by decide,by decide⟩,by rw [show ((2 * mxH (sdS b ns false):Nat):Int)+2 * ((mxH (sdS b ns true):Nat):Int)+1=((widG (sdS b ns false) (sdS b ns true):Nat):Int) by unfold widG;omega],sm⟩
  rintro σ H4 ⟨rfl,s4⟩
  walk_at "wp"
  have s14:=s2.trans (s3.trans s4)
  have hm4:=hm1.same s14
  have htl4:=(s3.trans s4) _ _ htl
  have ht4:=fun u=>(s3.trans s4) _ _ (ht u)
  have hf4:=s14 _ _ hf
  have hb4:=fun u=>(hb u).same s14
  refine⟨_,_,SqT.of hm4.1,rfl,o,_,rfl,.inr (SqT.of hm4.2),?_⟩
  rw [List.length_map]
  have s04:=s1.trans s14
  clear hm1 htl ht hf hb hm s1 s2 s3 s4 s14 ne mxv
  intro sg nsg
  refine cut_intro (fun σ H'=>∃ (at':Addr) (ad:Bool->Addr),σ=[some (.ref m),some (.ref bl),some (.ref tl),some (.int (2 * mxH (sdS b ns false):Nat)),some (.int (widG (sdS b ns false) (sdS b ns true):Nat)),some (.int ((ns.length:Int)+1)),some (.ref sg),some (.ref at'),none,none,none,none,none,none,none]/\Same H4 H'/\H' sg=some (.dT [])/\H' at'=some (.lst [.ref (ad false),.ref (ad true)])/\(∀ u,H' (ad u)=some (.dK []))/\(∀ u,H4 (ad u)=none)/\ad false≠ad true) ?_ ?_
  ·walk_at "wp"
   intro a0 na0 a1 na1
   refine⟨two,fun p np=>?_⟩
   have w1:=(Same.refl H4).new (o:=.dT []) nsg
   have w2:=(Same.refl (upd H4 sg (.dT []))).new (o:=.dK []) na0
   have w3:=(Same.refl (upd (upd H4 sg (.dT [])) a0 (.dK []))).new (o:=.dK []) na1
   have w4:=(Same.refl (upd (upd (upd H4 sg (.dT [])) a0 (.dK [])) a1 (.dK []))).new (o:=.lst [.ref a0,.ref a1]) np
   exact⟨p,fun u=>if u then a1 else a0,rfl,w1.trans (w2.trans (w3.trans w4)),(w2.trans (w3.trans w4)) _ _ upd_same,upd_same,fun u=>by cases u;exact (w3.trans w4) _ _ upd_same;exact w4 _ _ upd_same,fun u=>by cases u;exact w1.free na0;exact (w1.trans w2).free na1,ne_of_none upd_same na1⟩
  rintro σ H5 ⟨at',ad,rfl,s5,hsg,hat,had,nad,ade⟩
  have hm5:=hm4.same s5
  have htl5:=s5 _ _ htl4
  have ht5:=fun u=>s5 _ _ (ht4 u)
  have hf5:=s5 _ _ hf4
  have hb5:=fun u=>(hb4 u).same s5
  have off:∀ x o,H4 x=some o->x∉[sg,ad false,ad true]:=fun x o hx hm=>by
   simp only [List.mem_cons,List.not_mem_nil,or_false] at hm
   rcases hm with rfl | rfl | rfl
   ·rw [nsg] at hx;cases hx
   ·rw [nad] at hx;cases hx
   ·rw [nad] at hx;cases hx
  have ato:at'∉[sg,ad false,ad true]:=fun hm=>by
   simp only [List.mem_cons,List.not_mem_nil,or_false] at hm
   rcases hm with h | h | h<;>rw [h] at hat
   ·rw [hsg] at hat;cases hat
   ·rw [had] at hat;cases hat
   ·rw [had] at hat;cases hat
  have sga:∀ u,sg≠ad u:=fun u e=>by rw [e,had] at hsg;cases hsg
  have adm:∀ u,ad u∈[sg,ad false,ad true]:=fun u=>by cases u<;>simp
  have cc:∃ cc:Bool->Bw->Nat,cc false=cLf (sdS b ns false)/\cc true=cRf (sdS b ns false) (sdS b ns true):=⟨fun u=>if u then cRf (sdS b ns false) (sdS b ns true) else cLf (sdS b ns false),rfl,rfl⟩
  obtain⟨cc,cc0,cc1⟩:=cc
  refine cut_intro (fun σ H'=>∃ (x8 x9 x10 x11 x12:Option V) (kvs:List (List Key×V)) (kv:Bool->List (Key×V)),σ=[some (.ref m),some (.ref bl),some (.ref tl),some (.int (2 * mxH (sdS b ns false):Nat)),some (.int (widG (sdS b ns false) (sdS b ns true):Nat)),some (.int ((ns.length:Int)+1)),some (.ref sg),some (.ref at'),x8,x9,x10,x11,x12,none,none]/\Keeps [sg,ad false,ad true] H5 H'/\H' sg=some (.dT kvs)/\kvs.length<=4000/\Sg kvs (Fo ns.length fun i x=>opB (sdS b ns false) (cc false) i x || opB (sdS b ns true) (cc true) i x)/\∀ u,H' (ad u)=some (.dK (kv u))/\ColAt (kv u) (sdS b ns u) (cc u)) ?_ ?_
  ·walk_at "wp"
   refine⟨by decide,by decide,?_⟩
   rw [show ((2:Int)).toNat=2 from rfl]
   let ix:Bool->Nat:=fun u=>if u then 1 else 0
   refine for_range (n:=2) (fun i σ H'=>∃ (x8 x9 x10 x11 x12:Option V) (kvs:List (List Key×V)) (kv:Bool->List (Key×V)),σ=[some (.ref m),some (.ref bl),some (.ref tl),some (.int (2 * mxH (sdS b ns false):Nat)),some (.int (widG (sdS b ns false) (sdS b ns true):Nat)),some (.int ((ns.length:Int)+1)),some (.ref sg),some (.ref at'),x8,x9,x10,x11,x12,none,none]/\Keeps [sg,ad false,ad true] H5 H'/\H' sg=some (.dT kvs)/\kvs.length<=2000 * i/\Sg kvs (Fo ns.length fun y x=>opB (tkS (sdS b ns false) 0 i 0) (cc false) y x || opB (tkS (sdS b ns true) 1 i 0) (cc true) y x)/\∀ u,H' (ad u)=some (.dK (kv u))/\(kv u).length<=100 * i/\ColAt (kv u) (tkS (sdS b ns u) (if u then 1 else 0) i 0) (cc u)) ⟨_,_,_,_,_,[],fun _=>[],rfl,Keeps.refl _ _,hsg,Nat.zero_le _,fun i x=>rfl,fun u=>⟨had u,Nat.zero_le _,fun p hp=>by cases u<;>simp [tkS] at hp⟩⟩ ?_ ?_
   ·rintro i σ H6 hi ⟨x8,x9,x10,x11,x12,kvs,kv,rfl,kp,hsg6,kl,hS,had6⟩
    obtain⟨u,rfl⟩:∃ u:Bool,i=if u then 1 else 0:=by
     match i,hi with
     | 0,_=>exact⟨false,rfl⟩
     | 1,_=>exact⟨true,rfl⟩
    have hb6:=hb5 u
    obtain⟨as,b1,bl',bg⟩:=hb6.get
    have S40:=(BS u).len
    have blo:=off _ _ hf4
    have tlo:=off _ _ htl4
    have guo:g u∉[sg,ad false,ad true]:=by
     obtain⟨_,h,_⟩:=hb4 u
     exact off _ _ h
    have tuo:=off _ _ (ht4 u)
    have ai:∀ f:Bool->Addr,atI [V.ref (f false),V.ref (f true)] (0+((if u then 1 else 0:Nat):Int))=some (.ref (f u)):=fun f=>by cases u<;>rfl
    walk_at "wp"
    refine⟨_,_,SqL.of (kp _ _ blo hf5),ai g,g u,rfl,⟨_,SqL.of (kp _ _ guo b1)⟩,?_⟩
    refine for_list (xs:=as.map V.ref) (fun j σ H'=>∃ (x9 x10 x11 x12:Option V) (kvs:List (List Key×V)) (kv:Bool->List (Key×V)),σ=[some (.ref m),some (.ref bl),some (.ref tl),some (.int (2 * mxH (sdS b ns false):Nat)),some (.int (widG (sdS b ns false) (sdS b ns true):Nat)),some (.int ((ns.length:Int)+1)),some (.ref sg),some (.ref at'),some (.int (0+((if u then 1 else 0:Nat):Int))),x9,x10,x11,x12,none,none]/\Keeps [sg,ad false,ad true] H5 H'/\H' sg=some (.dT kvs)/\kvs.length<=2000 * (if u then 1 else 0)+50 * j/\Sg kvs (Fo ns.length fun y x=>opB (tkS (sdS b ns false) 0 (if u then 1 else 0) j) (cc false) y x || opB (tkS (sdS b ns true) 1 (if u then 1 else 0) j) (cc true) y x)/\∀ v,H' (ad v)=some (.dK (kv v))/\(kv v).length<=100 * (if u then 1 else 0)+2 * j/\ColAt (kv v) (tkS (sdS b ns v) (if v then 1 else 0) (if u then 1 else 0) j) (cc v)) ⟨x9,x10,x11,x12,kvs,kv,rfl,kp,hsg6,kl,hS,had6⟩ (fun j σ H' _ ⟨_,_,_,_,_,_,_,kp,_⟩=>SqL.of (kp _ _ guo b1)) ?_ ?_
    ·rintro j x σ H7 hx ⟨y9,y10,y11,y12,kvs,kv,rfl,kp,hsg7,kl,hS,had7⟩
     obtain⟨a,p,rfl,hp,ta⟩:=bg j x hx
     have pS:=List.mem_of_getElem? hp
     obtain⟨p0,p1,plt⟩:=bd u p pS
     have tao:a∉[sg,ad false,ad true]:=fun hm=>by
      simp only [List.mem_cons,List.not_mem_nil,or_false] at hm
      have ta':H5 a=some (.tup [.int p.1,.int p.2]):=ta
      rcases hm with h | h | h<;>rw [h] at ta'
      ·rw [hsg] at ta';cases ta'
      ·rw [had] at ta';cases ta'
      ·rw [had] at ta';cases ta'
     have ta7:tupAt H7 a p:=kp _ _ tao ta
     have dg:=DGet.t (k:=bK p) (kp _ _ tuo (ht5 u)) ta7
     rw [tkv_at ((mps u p).mpr pS)] at dg
     have ec:((2 * mxH (sdS b ns false):Nat):Int)+(2 * ((hF (sdS b ns u) p:Nat):Int) - 1) * (2 * (0+((if u then 1 else 0:Nat):Int)) - 1)=((cc u p:Nat):Int):=by
      have h1:1<=hF (sdS b ns u) p:=by rw [hF_eq (BS u).lt plt];omega
      have h2:=mxH_ge pS
      cases u
      ·rw [cc0]
       unfold cLf
       have e:(2 * (0+((if false then 1 else 0:Nat):Int)) - 1)=-1:=rfl
       rw [e]
       omega
      ·rw [cc1]
       unfold cRf
       have e:(2 * (0+((if true then 1 else 0:Nat):Int)) - 1)=1:=rfl
       rw [e]
       omega
     walk_at "wp"
     refine⟨_,_,SqL.of (kp _ _ tlo htl5),ai t,_,_,rfl,dg,?_⟩
     walk_at "wp"
     refine⟨.inl ⟨by decide,by decide⟩,.inl ⟨by decide,by decide⟩,.inr (by cases u<;>decide),?_⟩
     rw [ec]
     have k8:Keeps [sg,ad false,ad true] H7 (upd H7 (ad u) (.dK (putK (kv u) (.inl p.1) (.int (cc u p:Nat))))):=Keeps.upd (adm u)
     have k9:Keeps [sg,ad false,ad true] H7 (upd (upd H7 (ad u) (.dK (putK (kv u) (.inl p.1) (.int (cc u p:Nat))))) (ad u) (.dK (putK (putK (kv u) (.inl p.1) (.int (cc u p:Nat))) (.inl p.2) (.int (cc u p:Nat))))):=k8.trans (Keeps.upd (adm u))
     obtain⟨had7u,kvl,cau⟩:=had7 u
     have jl:j<(sdS b ns u).length:=(List.getElem?_eq_some_iff.mp hp).1
     have u1:(if u then 1 else 0:Nat)<=1:=by cases u<;>decide
     have lp1:=length_putK (kv u) (.inl p.1:Key) (.int (cc u p:Nat))
     have lp2:=length_putK (putK (kv u) (.inl p.1:Key) (.int (cc u p:Nat))) (.inl p.2:Key) (.int (cc u p:Nat))
     refine⟨_,_,SqL.of (kp _ _ ato hat),ai ad,_,_,SqT.of ta7,rfl,_,_,rfl,DPut.k (k:=.inl p.1) had7u (small1000 (by omega)),_,_,SqL.of (k8 _ _ ato (kp _ _ ato hat)),ai ad,_,_,SqT.of (k8 _ _ tao ta7),rfl,_,_,rfl,DPut.k (k:=.inl p.2) upd_same (small1000 (by omega)),?_⟩
     have had9:∃ kv':Bool->List (Key×V),∀ v,upd (upd H7 (ad u) (.dK (putK (kv u) (.inl p.1) (.int (cc u p:Nat))))) (ad u) (.dK (putK (putK (kv u) (.inl p.1) (.int (cc u p:Nat))) (.inl p.2) (.int (cc u p:Nat)))) (ad v)=some (.dK (kv' v))/\(kv' v).length<=100 * (if u then 1 else 0)+2 * (j+1)/\ColAt (kv' v) (tkS (sdS b ns v) (if v then 1 else 0) (if u then 1 else 0) (j+1)) (cc v):=by
      refine⟨fun v=>if v=u then putK (putK (kv u) (.inl p.1) (.int (cc u p:Nat))) (.inl p.2) (.int (cc u p:Nat)) else kv v,fun v=>?_⟩
      by_cases e:v=u
      ·subst e
       dsimp only
       rw [if_pos rfl,upd_same]
       refine⟨rfl,by omega,?_⟩
       rw [tkS_step hp]
       exact ColAt.add (BS v) (fun q hq=>tkS_mem hq) pS cau
      ·dsimp only
       rw [if_neg e,upd_upd,upd_ne (fun z:ad v=ad u=>by
        cases v<;>cases u
        ·exact e rfl
        ·exact ade z
        ·exact ade z.symm
        ·exact e rfl)]
       obtain⟨h1,h2,h3⟩:=had7 v
       refine⟨h1,by omega,?_⟩
       rw [tkS_off (by revert e;cases v<;>cases u<;>decide)]
       exact h3
     have hsg9:upd (upd H7 (ad u) (.dK (putK (kv u) (.inl p.1) (.int (cc u p:Nat))))) (ad u) (.dK (putK (putK (kv u) (.inl p.1) (.int (cc u p:Nat))) (.inl p.2) (.int (cc u p:Nat)))) sg=some (.dT kvs):=by rw [upd_upd,upd_ne (sga u)];exact hsg7
     generalize upd (upd H7 (ad u) (.dK (putK (kv u) (.inl p.1) (.int (cc u p:Nat))))) (ad u) (.dK (putK (putK (kv u) (.inl p.1) (.int (cc u p:Nat))) (.inl p.2) (.int (cc u p:Nat))))=H9 at k9 had9 hsg9 ⊢
     obtain⟨kv',had9⟩:=had9
     have ta9:tupAt H9 a p:=k9 _ _ tao ta7
     have kp9:=kp.trans k9
     clear k8 k9 had7 had7u cau lp1 lp2 ta7 dg hsg7 kp ec
     have hPn:∀ y x,((opB (tkS (sdS b ns false) 0 (if u then 1 else 0) j) (cc false) y x || opB (tkS (sdS b ns true) 1 (if u then 1 else 0) j) (cc true) y x) || (inL p y&&decide (x=cc u p)))=(opB (tkS (sdS b ns false) 0 (if u then 1 else 0) (j+1)) (cc false) y x || opB (tkS (sdS b ns true) 1 (if u then 1 else 0) (j+1)) (cc true) y x):=fun y x=>by
      cases u
      ·rw [show (if false=true then 1 else 0:Nat)=0 from rfl,tkS_step (i:=0) hp,tkS_off (show (1:Nat)≠0 by decide),opB_snoc]
       cases opB (tkS (sdS b ns false) 0 0 j) (cc false) y x<;>cases opB (tkS (sdS b ns true) 1 0 j) (cc true) y x<;>cases (inL p y&&decide (x=cc false p))<;>rfl
      ·rw [show (if true=true then 1 else 0:Nat)=1 from rfl,tkS_step (i:=1) hp,tkS_off (show (0:Nat)≠1 by decide),opB_snoc,Bool.or_assoc]
     generalize hP0:(fun y x=>opB (tkS (sdS b ns false) 0 (if u then 1 else 0) j) (cc false) y x || opB (tkS (sdS b ns true) 1 (if u then 1 else 0) j) (cc true) y x)=P0 at hS
     have hPn':∀ y x,(P0 y x || (inL p y&&decide (x=cc u p)))=(opB (tkS (sdS b ns false) 0 (if u then 1 else 0) (j+1)) (cc false) y x || opB (tkS (sdS b ns true) 1 (if u then 1 else 0) (j+1)) (cc true) y x):=fun y x=>by rw [<-hP0];exact hPn y x
     obtain⟨J,hJ⟩:∃ J:Nat,(J:Int)=2 * p.2+1 - 2 * p.1:=⟨(2 * p.2+1 - 2 * p.1).toNat,by omega⟩
     refine cut_intro (fun σ H'=>∃ (x11:Option V) (kvs':List (List Key×V)),σ=[some (.ref m),some (.ref bl),some (.ref tl),some (.int (2 * mxH (sdS b ns false):Nat)),some (.int (widG (sdS b ns false) (sdS b ns true):Nat)),some (.int ((ns.length:Int)+1)),some (.ref sg),some (.ref at'),some (.int (0+((if u then 1 else 0:Nat):Int))),some (.ref a),some (.int (cc u p:Nat)),x11,y12,none,none]/\Keeps [sg] H9 H'/\H' sg=some (.dT kvs')/\kvs'.length<=kvs.length+J/\Sg kvs' (Fl ns.length P0 p (cc u p) 0 J)) ?_ ?_
     ·walk_at "wp"
      refine⟨_,_,SqT.of ta9,rfl,?_⟩
      walk_at "wp"
      refine⟨.inl ⟨by decide,by decide⟩,_,_,SqT.of ta9,rfl,?_⟩
      walk_at "wp"
      refine⟨.inl ⟨by decide,by decide⟩,⟨by omega,by omega,by omega,by omega⟩,?_⟩
      rw [show (2 * p.2+2 - (2 * p.1+1)).toNat=J by omega]
      refine for_range (n:=J) (fun k σ H'=>∃ (x11:Option V) (kvs':List (List Key×V)),σ=[some (.ref m),some (.ref bl),some (.ref tl),some (.int (2 * mxH (sdS b ns false):Nat)),some (.int (widG (sdS b ns false) (sdS b ns true):Nat)),some (.int ((ns.length:Int)+1)),some (.ref sg),some (.ref at'),some (.int (0+((if u then 1 else 0:Nat):Int))),some (.ref a),some (.int (cc u p:Nat)),x11,y12,none,none]/\Keeps [sg] H9 H'/\H' sg=some (.dT kvs')/\kvs'.length<=kvs.length+k/\Sg kvs' (Fl ns.length P0 p (cc u p) 0 k)) ⟨_,kvs,rfl,Keeps.refl _ _,hsg9,Nat.le_refl _,by rw [Fl_0];exact hS⟩ ?_ ?_
      ·rintro k σ H' hk ⟨z11,kvs',rfl,kk,hk1,hk2,hk3⟩
       obtain⟨y,hy⟩:∃ y:Nat,(y:Int)=2 * p.1+1+(k:Int):=⟨(2 * p.1+1+(k:Int)).toNat,by omega⟩
       walk_at "wp"
       refine⟨two,fun tt ntt=>?_⟩
       rw [<-hy]
       have hk1':=hk1
       have e1:=(Same.refl H').new (o:=.tup [.int (y:Nat),.int (cc u p:Nat)]) ntt
       refine⟨_,DPut.t (k:=sK y (cc u p)) (e1 _ _ hk1) upd_same (by rw [sizeLine_eq];omega),_,_,rfl,(kk.trans (Same.keeps e1)).trans (Keeps.upd (by simp)),upd_same,?_,?_⟩
       ·have:=length_putK kvs' (sK y (cc u p)) (.str (Str.ofString "."))
        omega
       ·exact hk3.put y (cc u p) _ fun i' x'=>by rw [dotV];exact Fl_line hy i' x'
      ·rintro σ H' ⟨z11,kvs',rfl,kk,hk1,hk2,hk3⟩
       exact⟨z11,kvs',rfl,kk,hk1,hk2,hk3⟩
     rintro σ H10 ⟨z11,kvs',rfl,k10,hsg10,kl10,hS10⟩
     walk_at "wp"
     have as1:a∉[sg]:=fun z=>tao (by simp at z;simp [z])
     have ads:∀ v,ad v∉[sg]:=fun v z=>sga v (by simp at z;exact z.symm)
     refine⟨⟨_,SqT.of (k10 _ _ as1 ta9)⟩,?_⟩
     refine for_tup (xs:=[V.int p.1,V.int p.2]) (fun t σ H'=>∃ (x12:Option V) (kvs':List (List Key×V)),σ=[some (.ref m),some (.ref bl),some (.ref tl),some (.int (2 * mxH (sdS b ns false):Nat)),some (.int (widG (sdS b ns false) (sdS b ns true):Nat)),some (.int ((ns.length:Int)+1)),some (.ref sg),some (.ref at'),some (.int (0+((if u then 1 else 0:Nat):Int))),some (.ref a),some (.int (cc u p:Nat)),z11,x12,none,none]/\Keeps [sg] H9 H'/\H' sg=some (.dT kvs')/\kvs'.length<=kvs.length+J+t/\Sg kvs' (Fl ns.length P0 p (cc u p) t J)) ⟨_,kvs',rfl,k10,hsg10,kl10,hS10⟩ (fun t σ H' _ ⟨_,_,_,kk,_⟩=>SqT.of (kk _ _ as1 ta9)) ?_ ?_
     ·rintro t x σ H' hx ⟨z12,kvs'',rfl,kk,hk1,hk2,hk3⟩
      match t,hx with
      | 0,hx=>
       cases hx
       walk_at "wp"
       refine ite2 (fun z0=>?_) (fun z0=>ifN (by omega) ⟨_,kvs'',rfl,kk,hk1,by omega,by rw [<-Fl_nv (by omega)];exact hk3⟩)
       refine⟨two,fun tt ntt=>?_⟩
       have e1:=(Same.refl H').new (o:=.tup [.int 1,.int (cc u p:Nat)]) ntt
       refine⟨_,DPut.t (k:=sK 1 (cc u p)) (e1 _ _ hk1) upd_same (by rw [sizeLine_eq];omega),ifN (by omega) ⟨_,_,rfl,(kk.trans (Same.keeps e1)).trans (Keeps.upd (by simp)),upd_same,?_,?_⟩⟩
       ·have:=length_putK kvs'' (sK 1 (cc u p)) (.str (Str.ofString "v"))
        omega
       ·exact hk3.put 1 (cc u p) _ fun i' x'=>by rw [vV];exact Fl_v z0 (by omega) i' x'
      | 1,hx=>
       cases hx
       walk_at "wp"
       refine ifN (by omega) (ite2 (fun z0=>?_) (fun z0=>⟨_,kvs'',rfl,kk,hk1,by omega,by rw [<-Fl_nm (by omega) hJ];exact hk3⟩))
       refine⟨.inl ⟨by decide,by decide⟩,two,fun tt ntt=>?_⟩
       rw [show 2 * ((ns.length:Int)+1)+1=((2 * ns.length+3:Nat):Int) by omega]
       have e1:=(Same.refl H').new (o:=.tup [.int ((2 * ns.length+3:Nat):Int),.int (cc u p:Nat)]) ntt
       refine⟨_,DPut.t (k:=sK (2 * ns.length+3) (cc u p)) (e1 _ _ hk1) upd_same (by rw [sizeLine_eq];omega),_,_,rfl,(kk.trans (Same.keeps e1)).trans (Keeps.upd (by simp)),upd_same,?_,?_⟩
       ·have:=length_putK kvs'' (sK (2 * ns.length+3) (cc u p)) (.str (Str.ofString "@"))
        omega
       ·exact hk3.put (2 * ns.length+3) (cc u p) _ fun i' x'=>by rw [mV];exact Fl_m z0 p0 plt hJ i' x'
      | t+2,hx=>simp at hx
     ·rintro σ H' ⟨z12,kvs'',rfl,kk,hk1,hk2,hk3⟩
      refine⟨_,_,_,_,kvs'',kv',rfl,?_,hk1,?_,?_,fun v=>⟨kk _ _ (ads v) (had9 v).1,(had9 v).2⟩⟩
      ·intro x o hx hxo
       exact kk _ _ (fun z=>hx (by simp at z;simp [z])) (kp9 _ _ hx hxo)
      ·have:([V.int p.1,V.int p.2]:List V).length=2:=rfl
       omega
      ·intro y x
       rw [hk3 y x,show ([V.int p.1,V.int p.2]:List V).length=2 from rfl,Fl_done hJ]
       unfold Fo
       simp only [hPn']
    ·rintro σ H7 ⟨y9,y10,y11,y12,kvs,kv,rfl,kp,hsg7,kl,hS,had7⟩
     rw [List.length_map,bl'] at kl hS had7
     have nxt:∀ v k,tkS (sdS b ns v) k (if u then 1 else 0) (sdS b ns u).length=tkS (sdS b ns v) k ((if u then 1 else 0)+1) 0\/k=if u then 1 else 0:=fun v k=>by
      by_cases e:k=if u then 1 else 0
      ·exact .inr e
      ·refine .inl ?_
       unfold tkS
       rw [if_neg e]
       by_cases h1:k<if u then 1 else 0
       ·rw [if_pos h1,if_pos (by omega)]
       ·rw [if_neg h1,if_neg (by omega)]
        by_cases h2:k=(if u then 1 else 0)+1
        ·rw [if_pos h2]
        ·rw [if_neg h2]
     have nx2:∀ v:Bool,tkS (sdS b ns v) (if v then 1 else 0) (if u then 1 else 0) (sdS b ns u).length=tkS (sdS b ns v) (if v then 1 else 0) ((if u then 1 else 0)+1) 0:=fun v=>by
      rcases nxt v (if v then 1 else 0) with h | h
      ·exact h
      ·have e:v=u:=by revert h;cases v<;>cases u<;>decide
       subst e
       exact tkS_next (by omega) _ _
     refine⟨_,y9,y10,y11,y12,kvs,kv,rfl,kp,hsg7,by omega,?_,fun v=>⟨(had7 v).1,by have:=(had7 v).2.1;omega,by rw [<-nx2];exact (had7 v).2.2⟩⟩
     have h0:=nx2 false
     have h1:=nx2 true
     rw [show (if false=true then 1 else 0:Nat)=0 from rfl] at h0
     rw [show (if true=true then 1 else 0:Nat)=1 from rfl] at h1
     rw [<-h0,<-h1]
     exact hS
   ·rintro σ H6 ⟨x8,x9,x10,x11,x12,kvs,kv,rfl,kp,hsg6,kl,hS,had6⟩
    rw [tkS_all (by have:=(BS false).len;omega) (by decide),tkS_all (by have:=(BS true).len;omega) (by decide)] at hS
    refine⟨_,_,_,_,_,kvs,kv,rfl,kp,hsg6,by omega,hS,fun v=>⟨(had6 v).1,?_⟩⟩
    have:=(had6 v).2.2
    rw [tkS_all (by have:=(BS v).len;omega) (by cases v<;>decide)] at this
    exact this
  rintro σ H6 ⟨x8,x9,x10,x11,x12,kvs,kv,rfl,kp,hsg6,kl,hS,had6⟩
  refine cut_intro (fun σ H'=>∃ (x10' x13:Option V) (kvs':List (List Key×V)),σ=[some (.ref m),some (.ref bl),some (.ref tl),some (.int (2 * mxH (sdS b ns false):Nat)),some (.int (widG (sdS b ns false) (sdS b ns true):Nat)),some (.int ((ns.length:Int)+1)),some (.ref sg),some (.ref at'),x8,x9,x10',x11,x12,x13,none]/\Keeps [sg,ad false,ad true] H5 H'/\H' sg=some (.dT kvs')/\Sg kvs' (Fo ns.length (openG ns.length (sdS b ns false) (sdS b ns true)))) ?_ ?_
  ·have colv:∀ u,∀ r:Nat,1<=r->r<=ns.length->valV (kv u) (.inl (r:Int):Key)=some (.int ((if u then kRf (sdS b ns false) (sdS b ns true) r else kLf (sdS b ns false) r:Nat):Int)):=fun u r h1 h2=>by
    obtain⟨p,hp,e⟩:=sdS_has (b:=b) O u h1 h2
    have h3:=(had6 u).2 p hp
    have h4:(if u then kRf (sdS b ns false) (sdS b ns true) r else kLf (sdS b ns false) r:Nat)=cc u p:=by
     cases u
     ·rw [cc0];show kLf _ r=_;unfold kLf;rw [bowR_of (BS false) hp e]
     ·rw [cc1];show kRf _ _ r=_;unfold kRf;rw [bowR_of (BS true) hp e]
    rw [h4]
    rcases e with e | e
    ·rw [<-e];exact h3.1
    ·rw [<-e];exact h3.2
   have mo:=off _ _ hm4.1
   have oo:=off _ _ hm4.2
   have hm6:MazeAt H6 m o b ns:=⟨kp _ _ mo hm5.1,kp _ _ oo hm5.2⟩
   have ats:at'∉[sg]:=fun z=>ato (by simp at z;simp [z])
   have ads:∀ v,ad v∉[sg]:=fun v z=>sga v (by simp at z;exact z.symm)
   have os:o∉[sg]:=fun z=>oo (by simp at z;simp [z])
   have hat6:=kp _ _ ato hat
   have mxa:=mx0 false
   have mxb:=mx0 true
   walk_at "wp"
   refine⟨_,_,SqT.of hm6.1,rfl,o,rfl,⟨_,SqT.of hm6.2⟩,?_⟩
   refine for_tup (xs:=ns.map V.int) (fun t σ H'=>∃ (x10' x13:Option V) (kvs':List (List Key×V)),σ=[some (.ref m),some (.ref bl),some (.ref tl),some (.int (2 * mxH (sdS b ns false):Nat)),some (.int (widG (sdS b ns false) (sdS b ns true):Nat)),some (.int ((ns.length:Int)+1)),some (.ref sg),some (.ref at'),x8,x9,x10',x11,x12,x13,none]/\Keeps [sg] H6 H'/\H' sg=some (.dT kvs')/\kvs'.length<=4000+1000 * t/\Sg kvs' (Fo ns.length fun i x=>(opB (sdS b ns false) (cc false) i x || opB (sdS b ns true) (cc true) i x) || rgA (ns.take t) (kLf (sdS b ns false)) (kRf (sdS b ns false) (sdS b ns true)) i x)) ⟨_,_,kvs,rfl,Keeps.refl _ _,hsg6,kl,Fo_congr hS fun i x=>by simp [rgA]⟩ (fun t σ H' _ ⟨_,_,_,_,kk,_⟩=>SqT.of (kk _ _ os hm6.2)) ?_ ?_
   ·rintro t x σ H' hx ⟨y10,y13,kvs',rfl,kk,hk1,hk2,hk3⟩
    obtain⟨r',hr,rfl⟩:=got_map hx
    have tl1:=(List.getElem?_eq_some_iff.mp hr).1
    have rin:=O.mem.mp (List.mem_of_getElem? hr)
    obtain⟨r,rfl⟩:=Int.eq_ofNat_of_zero_le (show 0<=r' by omega)
    have etk:ns.take (t+1)=ns.take t++[(r:Int)]:=by rw [List.take_add_one,hr];rfl
    have dg0:=DGet.k (k:=.inl (r:Int)) (kk _ _ (ads false) (had6 false).1)
    have dg1:=DGet.k (k:=.inl (r:Int)) (kk _ _ (ads true) (had6 true).1)
    rw [colv false r (by omega) (by omega)] at dg0
    rw [colv true r (by omega) (by omega)] at dg1
    have bL:kLf (sdS b ns false) r<=100:=by unfold kLf cLf;omega
    have bR:kRf (sdS b ns false) (sdS b ns true) r<=200:=by
     obtain⟨p,hp,e⟩:=sdS_has (b:=b) O true (r:=r) (by omega) (by omega)
     unfold kRf cRf
     rw [bowR_of (BS true) hp e]
     have:=mxH_ge hp
     omega
    have s46:sgC ns.length (2 * r+1)=46:=by unfold sgC;rw [if_neg (by omega),if_neg (by omega)]
    walk_at "wp"
    refine⟨_,_,SqL.of (kk _ _ ats hat6),rfl,_,_,rfl,dg0,_,_,SqL.of (kk _ _ ats hat6),rfl,_,_,rfl,dg1,?_⟩
    walk_at "wp"
    refine⟨⟨by omega,by omega,by omega,by omega⟩,?_⟩
    generalize hM:(((kRf (sdS b ns false) (sdS b ns true) r:Nat):Int)+1 - ((kLf (sdS b ns false) r:Nat):Int)).toNat=M
    have rt:((r:Int)).toNat=r:=Int.toNat_natCast r
    refine for_range (n:=M) (fun k σ H'=>∃ (x10':Option V) (kvs':List (List Key×V)),σ=[some (.ref m),some (.ref bl),some (.ref tl),some (.int (2 * mxH (sdS b ns false):Nat)),some (.int (widG (sdS b ns false) (sdS b ns true):Nat)),some (.int ((ns.length:Int)+1)),some (.ref sg),some (.ref at'),x8,x9,x10',x11,x12,some (.int (r:Int)),none]/\Keeps [sg] H6 H'/\H' sg=some (.dT kvs')/\kvs'.length<=4000+1000 * t+k/\Sg kvs' (Fo ns.length fun i x=>((opB (sdS b ns false) (cc false) i x || opB (sdS b ns true) (cc true) i x) || rgA (ns.take t) (kLf (sdS b ns false)) (kRf (sdS b ns false) (sdS b ns true)) i x) || decide (i=2 * r+1/\kLf (sdS b ns false) r<=x/\x<kLf (sdS b ns false) r+k))) ⟨_,kvs',rfl,kk,hk1,hk2,Fo_congr hk3 fun i x=>?_⟩ ?_ ?_
    ·rw [decide_eq_false (show ¬ (i=2 * r+1/\kLf (sdS b ns false) r<=x/\x<kLf (sdS b ns false) r+0) by omega),Bool.or_false]
    ·rintro k σ H'' hk ⟨z10,kvs'',rfl,kk',hk1',hk2',hk3'⟩
     walk_at "wp"
     refine⟨.inl ⟨by decide,by decide⟩,two,fun tt ntt=>?_⟩
     rw [show 2 * (r:Int)+1=((2 * r+1:Nat):Int) by omega,show ((kLf (sdS b ns false) r:Nat):Int)+(k:Int)=((kLf (sdS b ns false) r+k:Nat):Int) by omega]
     have e1:=(Same.refl H'').new (o:=.tup [.int ((2 * r+1:Nat):Int),.int ((kLf (sdS b ns false) r+k:Nat):Int)]) ntt
     refine⟨_,DPut.t (k:=sK (2 * r+1) (kLf (sdS b ns false) r+k)) (e1 _ _ hk1') upd_same (by rw [sizeLine_eq];omega),_,_,rfl,(kk'.trans (Same.keeps e1)).trans (Keeps.upd (by simp)),upd_same,?_,?_⟩
     ·have:=length_putK kvs'' (sK (2 * r+1) (kLf (sdS b ns false) r+k)) (.str (Str.ofString "."))
      omega
     ·rw [dotV]
      refine Fo_put hk3' s46 fun i x=>?_
      have e:decide (i=2 * r+1/\kLf (sdS b ns false) r<=x/\x<kLf (sdS b ns false) r+(k+1))=(decide (i=2 * r+1/\kLf (sdS b ns false) r<=x/\x<kLf (sdS b ns false) r+k) || decide (i=2 * r+1/\x=kLf (sdS b ns false) r+k)):=by
       rw [Bool.eq_iff_iff]
       simp only [Bool.or_eq_true,decide_eq_true_eq]
       omega
      rw [e,<-Bool.or_assoc]
    ·rintro σ H'' ⟨z10,kvs'',rfl,kk',hk1',hk2',hk3'⟩
     refine⟨_,_,kvs'',rfl,kk',hk1',by omega,Fo_congr hk3' fun i x=>?_⟩
     rw [etk,rgA_snoc,<-Bool.or_assoc,rt]
     congr 1
     rw [Bool.eq_iff_iff]
     simp only [Bool.and_eq_true,decide_eq_true_eq]
     omega
   ·rintro σ H' ⟨y10,y13,kvs',rfl,kk,hk1,hk2,hk3⟩
    refine⟨_,_,kvs',rfl,fun z o' hz ho=>kk _ _ (fun y=>hz (by simp at y;simp [y])) (kp _ _ hz ho),hk1,Fo_congr hk3 fun i x=>?_⟩
    rw [List.length_map,List.take_length,rgA_all O,cc0,cc1]
    unfold openG
    rw [Bool.or_assoc]
  rintro σ H7 ⟨x10',x13,kvs',rfl,k7,hsg7,hS7⟩
  walk_at "wp"
  refine⟨Nat.zero_le _,fun p np=>?_⟩
  have e1:=(Same.refl H7).new (o:=.lst []) np
  have hp8:upd H7 p (.lst []) p=some (.lst []):=upd_same
  have hsg8:=e1 _ _ hsg7
  have k8:=k7.trans (Same.keeps e1)
  have fin:Same H (upd H7 p (.lst [])):=fun z o' hz=>by
   have hz4:=s04 _ _ hz
   exact k8 _ _ (off _ _ hz4) (s5 _ _ hz4)
  have npH:H p=none:=by
   cases e:H p with
   | none=>rfl
   | some o'=>
    have hz4:=s04 _ _ e
    rw [k7 _ _ (off _ _ hz4) (s5 _ _ hz4)] at np
    cases np
  have sgp:sg≠p:=fun e=>by rw [e] at hsg8;rw [hp8] at hsg8;cases hsg8
  generalize upd H7 p (.lst [])=H8 at hp8 hsg8 fin ⊢
  clear k8 e1 k7 hsg7 had6 kp hS
  refine cut_intro (fun σ H'=>∃ x11':Option V,σ=[some (.ref m),some (.ref bl),some (.ref tl),some (.int (2 * mxH (sdS b ns false):Nat)),some (.int (widG (sdS b ns false) (sdS b ns true):Nat)),some (.int ((ns.length:Int)+1)),some (.ref sg),some (.ref at'),x8,x9,x10',x11',x12,x13,some (.ref p)]/\Same H H'/\H' p=some (.lst ((((List.range (2 * ns.length+5)).map (rowG ns.length (sdS b ns false) (sdS b ns true))).map tx).map V.str))) ?_ ?_
  ·have mxa:=mx0 false
   have mxb:=mx0 true
   have wl:widG (sdS b ns false) (sdS b ns true)<=100:=by unfold widG;omega
   have hashV:V.str (Str.ofString "#")=sg1 35:=by unfold sg1;rw [show Str.ofString "#"=(⟨#[35]⟩:Str) by decide +kernel]
   walk_at "wp"
   refine⟨.inl ⟨by decide,by decide⟩,by omega,by omega,?_⟩
   rw [show (2 * ((ns.length:Int)+1)+3).toNat=2 * ns.length+5 by omega]
   refine for_range (n:=2 * ns.length+5) (fun i σ H'=>∃ x11':Option V,σ=[some (.ref m),some (.ref bl),some (.ref tl),some (.int (2 * mxH (sdS b ns false):Nat)),some (.int (widG (sdS b ns false) (sdS b ns true):Nat)),some (.int ((ns.length:Int)+1)),some (.ref sg),some (.ref at'),x8,x9,x10',x11',x12,x13,some (.ref p)]/\Same H H'/\H' sg=some (.dT kvs')/\H' p=some (.lst ((((List.range i).map (rowG ns.length (sdS b ns false) (sdS b ns true))).map tx).map V.str))) ⟨_,rfl,fin,hsg8,hp8⟩ ?_ ?_
   ·rintro i σ H' hi ⟨y11,rfl,s',hsg',hp'⟩
    walk_at "wp"
    refine⟨w_tyL hp',rfl,by omega,by omega,?_⟩
    rw [Int.toNat_natCast]
    refine comp_range (n:=widG (sdS b ns false) (sdS b ns true)) (fun k ys σ H''=>Same H' H''/\ys=(List.range k).map (fun x=>sg1 (signG ns.length (sdS b ns false) (sdS b ns true) i x))/\∃ x0:Option V,σ=[x0,some (.ref sg),some (.int (0+(i:Int)))]) ⟨Same.refl _,rfl,_,rfl⟩ (fun k ys σ H'' h=>by rw [h.2.1];simp) (Nat.le_of_lt (small1000 (by omega))) ?_ ?_
    ·rintro k ys σ H'' N hk ⟨sm,rfl,x0,rfl⟩ hN
     walk_at "wp"
     have hsg'':=sm _ _ hsg'
     refine⟨.inr ⟨_,.inl hsg''⟩,two,fun tt ntt=>?_⟩
     rw [Int.zero_add,Int.zero_add]
     have e1:=(Same.refl H'').new (o:=.tup [.int (i:Int),.int (k:Int)]) ntt
     refine⟨_,DGet.t (k:=sK i k) (e1 _ _ hsg'') upd_same,?_⟩
     rw [hS7 i k]
     have ev:(Fo ns.length (openG ns.length (sdS b ns false) (sdS b ns true)) i k).getD (V.str (Str.ofString "#"))=sg1 (signG ns.length (sdS b ns false) (sdS b ns true) i k):=by
      rw [hashV]
      unfold Fo signG sgC
      cases openG ns.length (sdS b ns false) (sdS b ns true) i k<;>rfl
     rw [ev]
     refine hN _ _ _ ⟨sm.trans e1,?_,_,by rw [Int.zero_add]⟩
     rw [List.range_succ,List.map_append]
     rfl
    ·rintro ys σ H'' l ⟨sm,rfl,x0,rfl⟩ nl
     have e1:=(Same.refl H'').new (o:=.lst ((List.range (widG (sdS b ns false) (sdS b ns true))).map fun x=>sg1 (signG ns.length (sdS b ns false) (sdS b ns true) i x))) nl
     have hl:upd H'' l (.lst ((List.range (widG (sdS b ns false) (sdS b ns true))).map fun x=>sg1 (signG ns.length (sdS b ns false) (sdS b ns true) i x))) l=some (.lst ((((List.range (widG (sdS b ns false) (sdS b ns true))).map (signG ns.length (sdS b ns false) (sdS b ns true) i)).map fun c=>(⟨#[c]⟩:Str)).map V.str)):=by rw [upd_same];exact congrArg (fun z=>some (HO.lst z)) (rwV_strs _ _)
     have s2:=sm.trans e1
     generalize upd H'' l (.lst ((List.range (widG (sdS b ns false) (sdS b ns true))).map fun x=>sg1 (signG ns.length (sdS b ns false) (sdS b ns true) i x)))=H3 at e1 hl s2 ⊢
     refine⟨_,l,_,rfl,rfl,SqL.of hl,tx_joinOk (by simp;omega),?_⟩
     rw [tx_join]
     have hp3:=s2 _ _ hp'
     refine⟨_,hp3,by rw [List.length_map,List.length_map,List.length_map,List.length_range];exact small1000 (by omega),_,rfl,(s'.trans s2).new npH,by rw [upd_ne sgp];exact s2 _ _ hsg',?_⟩
     rw [upd_same,List.range_succ]
     simp only [List.map_append,List.map_cons,List.map_nil]
     rfl
   ·rintro σ H' ⟨y11,rfl,s',hsg',hp'⟩
    exact⟨_,rfl,s',hp'⟩
  rintro σ H9 ⟨x11',rfl,s9,hp9⟩
  walk_at "wp"
  refine⟨rfl,_,p,_,rfl,rfl,SqL.of hp9,join_txOk (by simp;omega) (fun r hr=>?_),?_⟩
  ·obtain⟨j,_,rfl⟩:=List.mem_map.mp hr
   have mxa:=mx0 false
   have mxb:=mx0 true
   unfold rowG;rw [List.length_map,List.length_range];unfold widG;omega
  ·rw [join_tx]
   exact q _ s9
theorem ok_law (B:Blt mg) (E:Fn K mg "law" s_law ["_law_script"]) (D_cell_at:Def P w K mg base 1 "_law_cell_at" s_cell_at ["_law_script","_law_k"] (spCell K)) (D_digits:Def P w K mg base 2 "_law_digits" s_digits ["_law_cell","_law_base"] spDigits) (D_drawable:Def P w K mg base 5 "_law_drawable" s_drawable ["_law_side","_law_digits_here"] spDrawable) (D_drawn:Def P w K mg base 6 "drawn" s_drawn ["maze"] spDrawnN) (D_drawing:Def P w K mg base 2 "_law_drawing" s_drawing ["_law_maze"] spDrawing):Def P w K mg base 7 "law" s_law ["_law_script"] (spLaw K):=E.mk' fun f fd F=>by
 refine F.okS sc_law (fun vs H Q E h=>?_) (fun cdv A outer s H vs Q E hr h=>?_)
 ·obtain⟨a,ns,rfl,_⟩:=h
  rfl
 ·obtain⟨a,cs,rfl,hS,hlen,kQ⟩:=h
  refine⟨[some (.ref a),none,none],_,rfl,(L2.QSs.h (qpss_cons (qps_set (i:=1) sc_law.nd rfl (Or.inl rfl) (qpe_callD D_drawable (hr.mono (by decide)) (by rfl) (qpa_Subscript (qpe_ix ix_str qpe_str (qpe_op op_mod (qpe_callD D_cell_at (hr.mono (by decide)) (by rfl) (qpa_Name (qpv 0) (qpa_Constant qpe_int qpa_nil))) qpe_int) (fun _ _=>rfl)) (qpa_Call (qpe_callD D_digits (hr.mono (by decide)) (by rfl) (qpa_Call (qpe_callD D_cell_at (hr.mono (by decide)) (by rfl) (qpa_Name (qpv 0) (qpa_Constant qpe_int qpa_nil))) (qpa_Constant qpe_int qpa_nil))) qpa_nil))))
   (qpss_cons (qps_set (i:=2) sc_law.nd rfl (Or.inl rfl) (qpe_callD D_drawn (hr.mono (by decide)) (by rfl) (qpa_Name (qpv 1) qpa_nil)))
   (qpss_one (qps_ret (qpe_and (qpe_callB call_isi (by rfl) B.isinstance PyProof.Rows.boot_isinstance (qpa_Name (qpv 2) (qpa_Name (qpe_bltn (v:=.ty "str") (by rfl) B.str PyProof.Rows.boot_str rfl) qpa_nil))) (qpe_and (qpe_cmpR op_eq (qpv 2) (qpe_callD D_drawing (hr.mono (by decide)) (by rfl) (qpa_Name (qpv 1) qpa_nil)) (nomark _)) (qpe_one (qpe_cmpR op_eq (qpe_callD D_drawn (hr.mono (by decide)) (by rfl) (qpa_Name (qpv 1) qpa_nil)) (qpv 2) (nomark _)))))))))),?_⟩
  walk_at "wp"
  refine⟨a,cs,1,rfl,hS,?_⟩
  walk_at "wp"
  refine⟨by decide,by decide,_,lr_at (Int.emod_nonneg _ (by decide)) (Int.emod_lt_of_pos _ (by decide)),?_⟩
  rw [lr_sd]
  generalize decide (cs.getD 1 0 % 2=1)=b
  refine⟨a,cs,0,rfl,hS,?_⟩
  walk_at "wp"
  refine⟨_,4,rfl,by decide,by decide,fun dl ds H3 nd s3 hd hdl=>?_⟩
  refine⟨b,dl,ds,rfl,hd,by omega,fun m o ns H4 nm no s4 hm O nc=>?_⟩
  refine⟨m,o,b,ns,rfl,hm,O,nc,fun L R H5 hL hR s5=>?_⟩
  refine isi_str (.str _) ⟨true,rfl,?_⟩
  rw [if_pos rfl]
  refine⟨m,o,b,ns,rfl,hm.same s5,O,fun H6 s6=>?_⟩
  rw [txt_side O hL hR]
  refine (L2.w_eqS (Q:=_)).mpr ⟨true,by rw [decide_eq_true rfl],?_⟩
  rw [if_pos rfl]
  refine⟨m,o,b,ns,rfl,(hm.same s5).same s6,O,nc,fun L' R' H7 hL' hR' s7=>?_⟩
  rw [txt_side O hL' hR']
  refine (L2.w_eqS (Q:=Q)).mpr ?_
  rw [decide_eq_true rfl]
  exact kQ _
end
def FnIn(K:PySem.W.Frag)(x:Str)(st:Stmt):Prop:=∃ (f:Addr) (oc:Value) (od an:Option Addr) (osl:Array (Option Value)) (kV doc pm cdv ct:Value),PySem.W.nsIn K mainGlobals x=some (some (.ref f))/\K.lookup f=some ⟨oc,od,.func (PySem.W.fnOf x x (defArgs st) (defBody st) (defScope st) .none kV doc pm an cdv ct),osl⟩/\PySem.W.codeIn K cdv x=true/\PySem.W.keepIn K (.ref f)=true
theorem fnIn{K:PySem.W.Frag}{x:Str}{st:Stmt}{f:Addr}{oc:Value}{od an:Option Addr}{osl:Array (Option Value)}{kV doc pm cdv ct:Value}(a:PySem.W.nsIn K mainGlobals x=some (some (.ref f)))(l:K.lookup f=some ⟨oc,od,.func (PySem.W.fnOf x x (defArgs st) (defBody st) (defScope st) .none kV doc pm an cdv ct),osl⟩)(c:PySem.W.codeIn K cdv x=true)(k:PySem.W.keepIn K (.ref f)=true):FnIn K x st:=⟨_,_,_,_,_,_,_,_,_,_,a,l,c,k⟩
theorem fn_mk{K:PySem.W.Frag}{h:Heap}{mg:Str->Option Value}(X:K.In h)(G:h.Ns mainGlobals mg){x:Str}{st:Stmt}{ps:List Str}(a:FnIn K x st)
  (hb:∀ (kV doc pm:Value) (an:Option Addr) (cdv ct:Value) (us:List Value),us.length=ps.length->bindArgs (PySem.W.fnOf x x (defArgs st) (defBody st) (defScope st) .none kV doc pm an cdv ct) ⟨us,[]⟩=pure (ps.zip us)):Fn K mg x st ps:=
 let ⟨f,_,_,_,_,_,_,_,_,_,a,l,c,k⟩:=a
 have F:=fun_mk (st:=st) l c k
 ⟨f,_,F,PySem.W.mg_of X G a,F.binds hb⟩
theorem all_mk {l:PySem.W.OpenLaw} {w:World} {K:PySem.W.Frag} {h:Heap} {mg:Str->Option Value} {fa:Addr} (X:K.In h) (G:h.Ns mainGlobals mg) (hfa:mg "law"=some (.ref fa))
  (a_crossing:FnIn K "crossing" s_crossing)
  (a_span:FnIn K "span" s_span)
  (a_lies_within:FnIn K "lies_within" s_lies_within)
  (a_heights:FnIn K "heights" s_heights)
  (a_is_whole:FnIn K "is_whole" s_is_whole)
  (a_is_side:FnIn K "is_side" s_is_side)
  (a_is_order:FnIn K "is_order" s_is_order)
  (a_is_maze:FnIn K "is_maze" s_is_maze)
  (a_other_side:FnIn K "other_side" s_other_side)
  (a_side_of_step:FnIn K "side_of_step" s_side_of_step)
  (a_rows_of_way:FnIn K "rows_of_way" s_rows_of_way)
  (a_bows_of:FnIn K "bows_of" s_bows_of)
  (a_crossed:FnIn K "crossed" s_crossed)
  (a_vet:FnIn K "vet" s_vet)
  (a_line_of:FnIn K "line_of" s_line_of)
  (a_greatest_height:FnIn K "greatest_height" s_greatest_height)
  (a_by_row:FnIn K "by_row" s_by_row)
  (a_left_columns:FnIn K "left_columns" s_left_columns)
  (a_right_columns:FnIn K "right_columns" s_right_columns)
  (a_carve_bows:FnIn K "carve_bows" s_carve_bows)
  (a_carve_rings:FnIn K "carve_rings" s_carve_rings)
  (a_mark:FnIn K "mark" s_mark)
  (a_drawn:FnIn K "drawn" s_drawn)
  (a_cell_at:FnIn K "_law_cell_at" s_cell_at)
  (a_mix:FnIn K "_law_mix" s_mix)
  (a_digits:FnIn K "_law_digits" s_digits)
  (a_can:FnIn K "_law_can" s_can)
  (a_put:FnIn K "_law_put" s_put)
  (a_ended:FnIn K "_law_ended" s_ended)
  (a_need:FnIn K "_law_need" s_need)
  (a_fitting:FnIn K "_law_fitting" s_fitting)
  (a_grown:FnIn K "_law_grown" s_grown)
  (a_order_of:FnIn K "_law_order_of" s_order_of)
  (a_drawable:FnIn K "_law_drawable" s_drawable)
  (a_bows:FnIn K "_law_bows" s_bows)
  (a_tall:FnIn K "_law_tall" s_tall)
  (a_drawing:FnIn K "_law_drawing" s_drawing)
  (a_law:FnIn K "law" s_law)
  {t_MOST_RINGS:Tok} (y_MOST_RINGS:PySem.W.nsIn K mainGlobals "MOST_RINGS"=some (some (.int 20 t_MOST_RINGS)))
  {t_WALL:Tok} (y_WALL:PySem.W.nsIn K mainGlobals "WALL"=some (some (.str (Str.ofString "#") t_WALL)))
  {t_OPEN_CELL:Tok} (y_OPEN_CELL:PySem.W.nsIn K mainGlobals "OPEN_CELL"=some (some (.str (Str.ofString ".") t_OPEN_CELL)))
  {t_MOUTH:Tok} (y_MOUTH:PySem.W.nsIn K mainGlobals "MOUTH"=some (some (.str (Str.ofString "v") t_MOUTH)))
  {t_MIDDLE:Tok} (y_MIDDLE:PySem.W.nsIn K mainGlobals "MIDDLE"=some (some (.str (Str.ofString "@") t_MIDDLE)))
  {q_SIDES:Addr} {o_SIDES:Obj} (y_SIDES:PySem.W.nsIn K mainGlobals "SIDES"=some (some (.ref q_SIDES))) (l_SIDES:K.lookup q_SIDES=some o_SIDES) (t_SIDES:L2.StrTup o_SIDES ["l","r"])
  (z_len:PySem.W.nsIn K mainGlobals "len"=some none) (z_range:PySem.W.nsIn K mainGlobals "range"=some none) (z_int:PySem.W.nsIn K mainGlobals "int"=some none) (z_list:PySem.W.nsIn K mainGlobals "list"=some none) (z_tuple:PySem.W.nsIn K mainGlobals "tuple"=some none) (z_isinstance:PySem.W.nsIn K mainGlobals "isinstance"=some none) (z_str:PySem.W.nsIn K mainGlobals "str"=some none) (z_bool:PySem.W.nsIn K mainGlobals "bool"=some none) (z_sorted:PySem.W.nsIn K mainGlobals "sorted"=some none) (z_all:PySem.W.nsIn K mainGlobals "all"=some none) (z_any:PySem.W.nsIn K mainGlobals "any"=some none) (z_zip:PySem.W.nsIn K mainGlobals "zip"=some none) (z_max:PySem.W.nsIn K mainGlobals "max"=some none) (z_min:PySem.W.nsIn K mainGlobals "min"=some none) (z_reversed:PySem.W.nsIn K mainGlobals "reversed"=some none) (z_ValueError:PySem.W.nsIn K mainGlobals "ValueError"=some none) :
  ∃ fd:FuncData,(∀ (s:Shared) (v:Value),BindsTo s fd ⟨[v],[]⟩ [("_law_script",v)])/\∀ base:Heap,K.In base->base.Ns mainGlobals mg->FnOk l.prog w K mg base CX0 7 fa fd ["_law_script"] (spLaw K):=by
 have B:Blt mg:=⟨PySem.W.mg_none_of X G z_len,PySem.W.mg_none_of X G z_range,PySem.W.mg_none_of X G z_int,PySem.W.mg_none_of X G z_list,PySem.W.mg_none_of X G z_tuple,PySem.W.mg_none_of X G z_isinstance,PySem.W.mg_none_of X G z_str,PySem.W.mg_none_of X G z_bool,PySem.W.mg_none_of X G z_sorted,PySem.W.mg_none_of X G z_all,PySem.W.mg_none_of X G z_any,PySem.W.mg_none_of X G z_zip,PySem.W.mg_none_of X G z_max,PySem.W.mg_none_of X G z_min,PySem.W.mg_none_of X G z_reversed,PySem.W.mg_none_of X G z_ValueError,⟨_,PySem.W.mg_of X G y_MOST_RINGS⟩,⟨_,PySem.W.mg_of X G y_WALL⟩,⟨_,PySem.W.mg_of X G y_OPEN_CELL⟩,⟨_,PySem.W.mg_of X G y_MOUTH⟩,⟨_,PySem.W.mg_of X G y_MIDDLE⟩⟩
 have G_SIDES:=L2.glob_tup X G y_SIDES l_SIDES t_SIDES
 have E_crossing:Fn K mg "crossing" s_crossing ["bows"]:=fn_mk X G a_crossing fun _ _ _ _ _ _=>L2.us1 fun _=>rfl
 have E_span:Fn K mg "span" s_span ["bow"]:=fn_mk X G a_span fun _ _ _ _ _ _=>L2.us1 fun _=>rfl
 have E_lies_within:Fn K mg "lies_within" s_lies_within ["inner","outer"]:=fn_mk X G a_lies_within fun _ _ _ _ _ _=>L2.us2 fun _ _=>rfl
 have E_heights:Fn K mg "heights" s_heights ["bows"]:=fn_mk X G a_heights fun _ _ _ _ _ _=>L2.us1 fun _=>rfl
 have E_is_whole:Fn K mg "is_whole" s_is_whole ["thing"]:=fn_mk X G a_is_whole fun _ _ _ _ _ _=>L2.us1 fun _=>rfl
 have E_is_side:Fn K mg "is_side" s_is_side ["thing"]:=fn_mk X G a_is_side fun _ _ _ _ _ _=>L2.us1 fun _=>rfl
 have E_is_order:Fn K mg "is_order" s_is_order ["thing"]:=fn_mk X G a_is_order fun _ _ _ _ _ _=>L2.us1 fun _=>rfl
 have E_is_maze:Fn K mg "is_maze" s_is_maze ["thing"]:=fn_mk X G a_is_maze fun _ _ _ _ _ _=>L2.us1 fun _=>rfl
 have E_other_side:Fn K mg "other_side" s_other_side ["side"]:=fn_mk X G a_other_side fun _ _ _ _ _ _=>L2.us1 fun _=>rfl
 have E_side_of_step:Fn K mg "side_of_step" s_side_of_step ["maze","step"]:=fn_mk X G a_side_of_step fun _ _ _ _ _ _=>L2.us2 fun _ _=>rfl
 have E_rows_of_way:Fn K mg "rows_of_way" s_rows_of_way ["maze"]:=fn_mk X G a_rows_of_way fun _ _ _ _ _ _=>L2.us1 fun _=>rfl
 have E_bows_of:Fn K mg "bows_of" s_bows_of ["maze"]:=fn_mk X G a_bows_of fun _ _ _ _ _ _=>L2.us1 fun _=>rfl
 have E_crossed:Fn K mg "crossed" s_crossed ["maze"]:=fn_mk X G a_crossed fun _ _ _ _ _ _=>L2.us1 fun _=>rfl
 have E_vet:Fn K mg "vet" s_vet ["maze"]:=fn_mk X G a_vet fun _ _ _ _ _ _=>L2.us1 fun _=>rfl
 have E_line_of:Fn K mg "line_of" s_line_of ["row"]:=fn_mk X G a_line_of fun _ _ _ _ _ _=>L2.us1 fun _=>rfl
 have E_greatest_height:Fn K mg "greatest_height" s_greatest_height ["bows"]:=fn_mk X G a_greatest_height fun _ _ _ _ _ _=>L2.us1 fun _=>rfl
 have E_by_row:Fn K mg "by_row" s_by_row ["bows","columns"]:=fn_mk X G a_by_row fun _ _ _ _ _ _=>L2.us2 fun _ _=>rfl
 have E_left_columns:Fn K mg "left_columns" s_left_columns ["bows","most_left"]:=fn_mk X G a_left_columns fun _ _ _ _ _ _=>L2.us2 fun _ _=>rfl
 have E_right_columns:Fn K mg "right_columns" s_right_columns ["bows","most_left"]:=fn_mk X G a_right_columns fun _ _ _ _ _ _=>L2.us2 fun _ _=>rfl
 have E_carve_bows:Fn K mg "carve_bows" s_carve_bows ["grid","bows","columns"]:=fn_mk X G a_carve_bows fun _ _ _ _ _ _=>L2.us3 fun _ _ _=>rfl
 have E_carve_rings:Fn K mg "carve_rings" s_carve_rings ["grid","rings","lefts","rights"]:=fn_mk X G a_carve_rings fun _ _ _ _ _ _=>L2.us4 fun _ _ _ _=>rfl
 have E_mark:Fn K mg "mark" s_mark ["line","sign"]:=fn_mk X G a_mark fun _ _ _ _ _ _=>L2.us2 fun _ _=>rfl
 have E_drawn:Fn K mg "drawn" s_drawn ["maze"]:=fn_mk X G a_drawn fun _ _ _ _ _ _=>L2.us1 fun _=>rfl
 have E_cell_at:Fn K mg "_law_cell_at" s_cell_at ["_law_script","_law_k"]:=fn_mk X G a_cell_at fun _ _ _ _ _ _=>L2.us2 fun _ _=>rfl
 have E_mix:Fn K mg "_law_mix" s_mix ["_law_seed","_law_k"]:=fn_mk X G a_mix fun _ _ _ _ _ _=>L2.us2 fun _ _=>rfl
 have E_digits:Fn K mg "_law_digits" s_digits ["_law_cell","_law_base"]:=fn_mk X G a_digits fun _ _ _ _ _ _=>L2.us2 fun _ _=>rfl
 have E_can:Fn K mg "_law_can" s_can ["_law_open_ends","_law_letter"]:=fn_mk X G a_can fun _ _ _ _ _ _=>L2.us2 fun _ _=>rfl
 have E_put:Fn K mg "_law_put" s_put ["_law_open_ends","_law_found","_law_letter","_law_row"]:=fn_mk X G a_put fun _ _ _ _ _ _=>L2.us4 fun _ _ _ _=>rfl
 have E_ended:Fn K mg "_law_ended" s_ended ["_law_open_ends","_law_found","_law_row"]:=fn_mk X G a_ended fun _ _ _ _ _ _=>L2.us3 fun _ _ _=>rfl
 have E_need:Fn K mg "_law_need" s_need ["_law_many"]:=fn_mk X G a_need fun _ _ _ _ _ _=>L2.us1 fun _=>rfl
 have E_fitting:Fn K mg "_law_fitting" s_fitting ["_law_open_ends","_law_row","_law_digit"]:=fn_mk X G a_fitting fun _ _ _ _ _ _=>L2.us3 fun _ _ _=>rfl
 have E_grown:Fn K mg "_law_grown" s_grown ["_law_side","_law_digits_here"]:=fn_mk X G a_grown fun _ _ _ _ _ _=>L2.us2 fun _ _=>rfl
 have E_order_of:Fn K mg "_law_order_of" s_order_of ["_law_side","_law_found"]:=fn_mk X G a_order_of fun _ _ _ _ _ _=>L2.us2 fun _ _=>rfl
 have E_drawable:Fn K mg "_law_drawable" s_drawable ["_law_side","_law_digits_here"]:=fn_mk X G a_drawable fun _ _ _ _ _ _=>L2.us2 fun _ _=>rfl
 have E_bows:Fn K mg "_law_bows" s_bows ["_law_maze"]:=fn_mk X G a_bows fun _ _ _ _ _ _=>L2.us1 fun _=>rfl
 have E_tall:Fn K mg "_law_tall" s_tall ["_law_bows_here"]:=fn_mk X G a_tall fun _ _ _ _ _ _=>L2.us1 fun _=>rfl
 have E_drawing:Fn K mg "_law_drawing" s_drawing ["_law_maze"]:=fn_mk X G a_drawing fun _ _ _ _ _ _=>L2.us1 fun _=>rfl
 have E_law:Fn K mg "law" s_law ["_law_script"]:=fn_mk X G a_law fun _ _ _ _ _ _=>L2.us1 fun _=>rfl
 have key:∀ base:Heap,K.In base->base.Ns mainGlobals mg->Def l.prog w K mg base 7 "law" s_law ["_law_script"] (spLaw K):=fun base KB GB=>by
  have D_crossing:=ok_crossing (P:=l.prog) (w:=w) (base:=base) E_crossing
  have D_is_whole:=ok_is_whole (P:=l.prog) (w:=w) (base:=base) B E_is_whole
  have D_is_side:=ok_is_side (P:=l.prog) (w:=w) (base:=base) G_SIDES E_is_side
  have D_is_order:=ok_is_order B E_is_order D_is_whole
  have D_is_maze:=ok_is_maze B E_is_maze D_is_side D_is_order
  have D_other_side:=ok_other_side (P:=l.prog) (w:=w) (base:=base) E_other_side
  have D_side_of_step:=ok_side_of_step E_side_of_step D_other_side
  have D_rows_of_way:=ok_rows_of_way (P:=l.prog) (w:=w) (base:=base) B E_rows_of_way
  have D_bows_of:=ok_bows_of B E_bows_of D_side_of_step D_rows_of_way
  have D_crossed:=ok_crossed B G_SIDES E_crossed D_bows_of D_crossing
  have D_vet:=ok_vet E_vet D_is_maze D_crossed
  have D_span:=ok_span (P:=l.prog) (w:=w) (base:=base) E_span
  have D_lies_within:=ok_lies_within (P:=l.prog) (w:=w) (base:=base) E_lies_within
  have D_heights:=ok_heights B E_heights D_span D_lies_within
  have D_line_of:=ok_line_of (P:=l.prog) (w:=w) (base:=base) E_line_of
  have D_greatest_height:=ok_greatest_height B E_greatest_height D_heights
  have D_by_row:=ok_by_row (P:=l.prog) (w:=w) (base:=base) B E_by_row
  have D_left_columns:=ok_left_columns B E_left_columns D_heights D_by_row
  have D_right_columns:=ok_right_columns B E_right_columns D_heights D_by_row
  have D_carve_bows:=ok_carve_bows B E_carve_bows D_line_of
  have D_carve_rings:=ok_carve_rings B E_carve_rings D_line_of
  have D_mark:=ok_mark (P:=l.prog) (w:=w) (base:=base) B E_mark
  have D_drawn:=ok_drawn B E_drawn D_vet D_bows_of D_line_of D_greatest_height D_left_columns D_right_columns D_carve_bows D_carve_rings D_mark
  have D_cell_at:=ok_cell_at (P:=l.prog) (w:=w) (base:=base) B E_cell_at
  have D_mix:=ok_mix (P:=l.prog) (w:=w) (base:=base) E_mix
  have D_digits:=ok_digits B E_digits D_mix
  have D_need:=ok_need (P:=l.prog) (w:=w) (base:=base) E_need
  have D_can:=ok_can (P:=l.prog) (w:=w) (base:=base) B E_can
  have D_put:=ok_put (P:=l.prog) (w:=w) (base:=base) B E_put
  have D_fitting:=ok_fitting B E_fitting D_can D_need
  have D_ended:=ok_ended B E_ended D_put
  have D_grown:=ok_grown B E_grown D_fitting D_put D_ended
  have D_order_of:=ok_order_of (P:=l.prog) (w:=w) (base:=base) B E_order_of
  have D_drawable:=ok_drawable E_drawable D_grown D_order_of
  have D_bows:=ok_bows (P:=l.prog) (w:=w) (base:=base) B E_bows
  have D_tall:=ok_tall (P:=l.prog) (w:=w) (base:=base) B E_tall
  have D_drawing:=ok_drawing B E_drawing D_bows D_tall
  exact ok_law B E_law D_cell_at D_digits D_drawable D_drawn D_drawing
 obtain⟨f0,oc0,od0,an_law,sl0,kV_law,dc_law,pm_law,cd_law,ct_law,a_law,l_law,_,_⟩:=a_law
 have e:=hfa.symm.trans (PySem.W.mg_of X G a_law)
 cases e
 refine⟨PySem.W.fnOf "law" "law" (defArgs s_law) (defBody s_law) (defScope s_law) .none kV_law dc_law pm_law an_law cd_law ct_law,fun s v=>.of_eq rfl,fun base KB GB=>?_⟩
 obtain⟨f,fd,F,m,b,ok⟩:=(key base KB GB).ex
 rw [PySem.W.mg_of X G a_law] at m
 cases m
 obtain⟨_,_,_,_,_,_,_,_,_,rfl,lk,_⟩:=F.ex
 rw [l_law] at lk
 cases lk
 exact ok
theorem walk{l:PySem.W.OpenLaw}{q:Program}{loose:List Str}{XP:(Str->Option Value)->Heap->Prop}{YP:World->Heap->Prop}{d:DefRec}{K:Params->PySem.W.Frag}(hn:l.most=some 63)(hdf:d.params.defaults=[])
  (hY:∀ (w:World) (h:Heap),YP w h->(K w.params).In h)
  (F:∀ (w:World) (mg:Str->Option Value) (fa:Addr) (h:Heap),(K w.params).In h->h.Ns mainGlobals mg->mg d.name=some (.ref fa) →
   ∃ fd:FuncData,(∀ (s:Shared) (u:Value),BindsTo s fd ⟨[u],[]⟩ [("_law_script",u)])/\∀ base:Heap,(K w.params).In base->base.Ns mainGlobals mg->FnOk l.prog w (K w.params) mg base CX0 7 fa fd ["_law_script"] (spLaw (K w.params))) :
  PySem.W.WalkO q loose XP YP l.row.toRowW d [] (fun f vs=>PySem.call f vs):=
 L2.walk_of (n:=63) (k:=7) (x:="_law_script") (CX:=fun _=>CX0) (sp:=fun w=>spLaw (K w.params)) hn (by decide) hdf ⟨rfl,by decide,by decide,rfl⟩ hY F (fun _ _ a ns hl _ hS=>⟨a,ns,rfl,hS,hl,fun _=>rfl⟩) fun _ _ _ _ _ z=>z
end Rm
open PySem PySem.W PyProof.Rows
local macro_rules | `(tactic| walk_at "kf") => `(tactic| exact Rm.fnIn (by k_is) (by k_is) (by k_is) (by k_is))
set_option maxRecDepth 100000 in
set_option maxHeartbeats 0 in
theorem PySem.Challenge.cw_ringmaze_k11_drawings_holds : PySem.Challenge.rw_ringmaze_k11_drawings.Holds := by
 w_on; o_law; k_head; (case hw => w_witness2)
 k_fill
 refine Rm.walk (l := PySem.Challenge.rw_ringmaze_k11_drawings) rfl rfl (fun w h Y => PySem.W.kIn_of Y) ?F
 case F =>
  intro w mg fa h KX G hmg
  refine' Rm.all_mk KX G hmg ?a_crossing ?a_span ?a_lies_within ?a_heights ?a_is_whole ?a_is_side ?a_is_order ?a_is_maze ?a_other_side ?a_side_of_step ?a_rows_of_way ?a_bows_of ?a_crossed ?a_vet ?a_line_of ?a_greatest_height ?a_by_row ?a_left_columns ?a_right_columns ?a_carve_bows ?a_carve_rings ?a_mark ?a_drawn ?a_cell_at ?a_mix ?a_digits ?a_can ?a_put ?a_ended ?a_need ?a_fitting ?a_grown ?a_order_of ?a_drawable ?a_bows ?a_tall ?a_drawing ?a_law ?y_MOST_RINGS ?y_WALL ?y_OPEN_CELL ?y_MOUTH ?y_MIDDLE ?y_SIDES ?l_SIDES ?t_SIDES ?z_len ?z_range ?z_int ?z_list ?z_tuple ?z_isinstance ?z_str ?z_bool ?z_sorted ?z_all ?z_any ?z_zip ?z_max ?z_min ?z_reversed ?z_ValueError
  (case a_crossing => walk_at "kf")
  (case a_span => walk_at "kf")
  (case a_lies_within => walk_at "kf")
  (case a_heights => walk_at "kf")
  (case a_is_whole => walk_at "kf")
  (case a_is_side => walk_at "kf")
  (case a_is_order => walk_at "kf")
  (case a_is_maze => walk_at "kf")
  (case a_other_side => walk_at "kf")
  (case a_side_of_step => walk_at "kf")
  (case a_rows_of_way => walk_at "kf")
  (case a_bows_of => walk_at "kf")
  (case a_crossed => walk_at "kf")
  (case a_vet => walk_at "kf")
  (case a_line_of => walk_at "kf")
  (case a_greatest_height => walk_at "kf")
  (case a_by_row => walk_at "kf")
  (case a_left_columns => walk_at "kf")
  (case a_right_columns => walk_at "kf")
  (case a_carve_bows => walk_at "kf")
  (case a_carve_rings => walk_at "kf")
  (case a_mark => walk_at "kf")
  (case a_drawn => walk_at "kf")
  (case a_cell_at => walk_at "kf")
  (case a_mix => walk_at "kf")
  (case a_digits => walk_at "kf")
  (case a_can => walk_at "kf")
  (case a_put => walk_at "kf")
  (case a_ended => walk_at "kf")
  (case a_need => walk_at "kf")
  (case a_fitting => walk_at "kf")
  (case a_grown => walk_at "kf")
  (case a_order_of => walk_at "kf")
  (case a_drawable => walk_at "kf")
  (case a_bows => walk_at "kf")
  (case a_tall => walk_at "kf")
  (case a_drawing => walk_at "kf")
  (case a_law => walk_at "kf")
  (case y_MOST_RINGS => k_is)
  (case y_WALL => k_is)
  (case y_OPEN_CELL => k_is)
  (case y_MOUTH => k_is)
  (case y_MIDDLE => k_is)
  (case y_SIDES => k_is)
  (case l_SIDES => k_is)
  (case t_SIDES => exact L2.strTup_of rfl rfl (by decide) (.cons ⟨_, rfl⟩ (.cons ⟨_, rfl⟩ .nil)))
  (case z_len => k_is)
  (case z_range => k_is)
  (case z_int => k_is)
  (case z_list => k_is)
  (case z_tuple => k_is)
  (case z_isinstance => k_is)
  (case z_str => k_is)
  (case z_bool => k_is)
  (case z_sorted => k_is)
  (case z_all => k_is)
  (case z_any => k_is)
  (case z_zip => k_is)
  (case z_max => k_is)
  (case z_min => k_is)
  (case z_reversed => k_is)
  (case z_ValueError => k_is)
#print axioms PySem.Challenge.cw_ringmaze_k11_drawings_holds
