import PyProof.Rows.All
import Wide.All
import OpenK.AllK
import Wide.FinOn
import Lean
import PyProof.EqAt
import PyProof.EqKinds
import PyProof.TupleCall
import KE.LcSums
import PyProof.StrLawsJoin
import KE.KSortedM
import KE.KSortTup
import KE.KSortKey
import PyProof.WalkInts
import PyProof.MinMaxWalk
import KE.KRevIter
import PyProof.ReprLen
import PyProof.P3Eq
import PySem.Challenge.RW_ringmaze_k24_whole_one_turn_one_round
set_option Elab.async false
set_option linter.all false
set_option maxRecDepth 100000
def PySem.W.Fast.tw9779487861955750234:Nat:=0
def PySem.W.Fast.tw9214180942367951207:Nat:=0
def PySem.W.Fast.tw16317093681885165281:Nat:=0
def PySem.W.Fast.tw14731601174666874879:Nat:=0
def PySem.W.Fast.tw6843438952957537360:Nat:=0
def PySem.W.Fast.tw11839971507937507802:Nat:=0
def PySem.W.Fast.tw5794021719248895009:Nat:=0
def PySem.W.Fast.tw13527859149804238097:Nat:=0
def PySem.W.Fast.tw9841913801414918723:Nat:=0
def PySem.W.Fast.tw13449056453269649246:Nat:=0
def PySem.W.Fast.tw9930516971490386413:Nat:=0
def PySem.W.Fast.tw2288044486545689731:Nat:=0
def PySem.W.Fast.tw728156131231096896:Nat:=0
def PySem.W.Fast.tw15200659254510076176:Nat:=0
def PySem.W.Fast.tw16057301084949869263:Nat:=0
def PySem.W.Fast.tw10016867765146393310:Nat:=0
def PySem.W.Fast.tw11686024515095035328:Nat:=0
def PySem.W.Fast.tw17390126232015179161:Nat:=0
def PySem.W.Fast.tw8549341183158550372:Nat:=0
def PySem.W.Fast.tw4909454871584304454:Nat:=0
def PySem.W.Fast.tw10888146880672634803:Nat:=0
def PySem.W.Fast.tw16366577563982136429:Nat:=0
def PySem.W.Fast.tw15761541532911841973:Nat:=0
def PySem.W.Fast.tw12060949724891491481:Nat:=0
def PySem.W.Fast.tw11831691577361791459:Nat:=0
def PySem.W.Fast.tw12439796194690358173:Nat:=0
def PySem.W.Fast.tw15728750808351022058:Nat:=0
namespace L2
open PySem PySem.Spec PyProof.Rows
abbrev Key:=Sum Int Str
def keyIs:Key->Value->Bool
 | .inl k,v=>Value.isInt k v
 | .inr x,v=>Value.isStrOf x v
def keyH(w:World):Key->Int
 | .inl k=>hashInt k
 | .inr x=>hashStr w x
theorem keyIs_shape:∀ {k:Key} {v:Value},keyIs k v=true->(∃ i t,k=Sum.inl i/\v=Value.int i t)\/(∃ x t,k=Sum.inr x/\v=Value.str x t)
 | .inl i,v,h=>by
  obtain⟨t,e⟩:=Value.isInt_shape (k:=i) (v:=v) h
  exact .inl ⟨i,t,rfl,e⟩
 | .inr x,v,h=>by
  obtain⟨t,e⟩:=Value.isStrOf_shape (x:=x) (v:=v) h
  exact .inr ⟨x,t,rfl,e⟩
theorem keyIs_int(i:Int)(t:Tok):keyIs (.inl i) (.int i t)=true:=by simp [keyIs,Value.isInt]
theorem keyIs_str(x:Str)(t:Tok):keyIs (.inr x) (.str x t)=true:=by simp [keyIs,Value.isStrOf]
theorem key_ll(a b:Int):decide ((Sum.inl a:Key)=Sum.inl b)=(a==b):=by
 by_cases e:a=b
 ·subst e;simp
 ·have h:¬ (Sum.inl a:Key)=Sum.inl b:=fun q=>e (Sum.inl.inj q)
  rw [decide_eq_false h]
  exact (beq_eq_false_iff_ne.mpr e).symm
theorem key_rr(a b:Str):decide ((Sum.inr a:Key)=Sum.inr b)=decide (a=b):=by
 by_cases e:a=b
 ·subst e;simp
 ·have h:¬ (Sum.inr a:Key)=Sum.inr b:=fun q=>e (Sum.inr.inj q)
  rw [decide_eq_false h,decide_eq_false e]
theorem key_lr(a:Int)(b:Str):decide ((Sum.inl a:Key)=Sum.inr b)=false:=decide_eq_false (fun q=>nomatch q)
theorem key_rl(a:Str)(b:Int):decide ((Sum.inr a:Key)=Sum.inl b)=false:=decide_eq_false (fun q=>nomatch q)
def mixKind (prog : Program) (w : World) : PySem.KeyKind prog w Key where
  is := keyIs
  hash := keyH w
  inj := fun v a b ha hb => by
    rcases keyIs_shape ha with ⟨i, t, rfl, rfl⟩ | ⟨x, t, rfl, rfl⟩
    · rcases keyIs_shape hb with ⟨j, u, rfl, e⟩ | ⟨y, u, rfl, e⟩
      · injection e with e1 _; rw [e1]
      · exact nomatch e
    · rcases keyIs_shape hb with ⟨j, u, rfl, e⟩ | ⟨y, u, rfl, e⟩
      · exact nomatch e
      · injection e with e1 _; rw [e1]
  byValue := fun k v h => by
    rcases keyIs_shape h with ⟨i, t, rfl, rfl⟩ | ⟨x, t, rfl, rfl⟩ <;> rfl
  pyHash := fun hv h => by
    rcases keyIs_shape hv with ⟨i, t, rfl, rfl⟩ | ⟨x, t, rfl, rfl⟩
    · exact wpAny_pyHash_int h
    · exact wpAny_pyHash_str h
  eqBool := fun hu hv h => by
    rcases keyIs_shape hu with ⟨i, t, rfl, rfl⟩ | ⟨x, t, rfl, rfl⟩
    · rcases keyIs_shape hv with ⟨j, u, rfl, rfl⟩ | ⟨y, u, rfl, rfl⟩
      · rw [key_ll] at h; exact wpAny_eqBool_int h
      · rw [key_lr] at h; exact SeqAt.EqAt.int_str i t y u _ _ _ _ h
    · rcases keyIs_shape hv with ⟨j, u, rfl, rfl⟩ | ⟨y, u, rfl, rfl⟩
      · rw [key_rl] at h; exact SeqAt.EqAt.str_int x t j u _ _ _ _ h
      · rw [key_rr] at h; exact wpAny_eqBool_str h
  «strs» := fun k x t v h => by
    rcases keyIs_shape h with ⟨i, u, rfl, e⟩ | ⟨y, u, rfl, e⟩
    · exact nomatch e
    · injection e with e1 _
      subst e1
      cases v <;> rfl
theorem mixKind_int(prog:Program)(w:World)(i:Int)(t:Tok):(mixKind prog w).is (.inl i) (.int i t)=true:=keyIs_int i t
theorem mixKind_str(prog:Program)(w:World)(x:Str)(t:Tok):(mixKind prog w).is (.inr x) (.str x t)=true:=keyIs_str x t
end L2
namespace L2
open PySem PySem.Spec PyProof.Rows
inductive V where
 | non | bl (b:Bool) | int (i:Int) | str (x:Str) | byt (b:Array UInt8) | flt (b:UInt64) | ref (a:Addr) | ty (n:String)
 deriving DecidableEq
def RelV:V->Value->Prop
 | .non,u=>u=Value.none
 | .bl b,u=>u=Value.bool b
 | .int i,u=>∃ t,u=Value.int i t
 | .str x,u=>∃ t,u=Value.str x t
 | .byt b,u=>∃ t,u=Value.bytes b t
 | .flt b,u=>∃ t,u=Value.float b t
 | .ref a,u=>u=Value.ref a
 | .ty n,u=>u=Value.type n
abbrev Vals:List V->List Value->Prop:=Paired RelV
theorem Vals.length{xs:List V}{us:List Value}(r:Vals xs us):xs.length=us.length:=Paired.length r
theorem Vals.get:∀ {xs:List V} {us:List Value} {i:Nat} {x:V},Vals xs us->xs[i]? = some x->∃ u,us[i]? = some u/\RelV x u
 | _,_,_,_,.nil,e=>by simp at e
 | _,_,0,_,.cons r _,e=>by simp at e;subst e;exact⟨_,rfl,r⟩
 | _,_,i+1,x,.cons _ t,e=>by
  obtain⟨u,h1,h2⟩:=Vals.get (i:=i) (x:=x) t (by simpa using e)
  exact⟨u,by simpa using h1,h2⟩
theorem Vals.set{x:V}{u:Value}(r:RelV x u):∀ {xs:List V} {us:List Value} (i:Nat),Vals xs us->Vals (xs.set i x) (us.set i u)
 | _,_,_,.nil=>.nil
 | _,_,0,.cons _ t=>.cons r t
 | _,_,i+1,.cons q t=>.cons q (Vals.set r i t)
theorem Vals.append:∀ {xs ys:List V} {us ws:List Value},Vals xs us->Vals ys ws->Vals (xs++ys) (us++ws)
 | _,_,_,_,.nil,s=>s
 | _,_,_,_,.cons r t,s=>.cons r (Vals.append t s)
theorem Vals.take:∀ {xs:List V} {us:List Value} (n:Nat),Vals xs us->Vals (xs.take n) (us.take n)
 | _,_,0,_=>.nil
 | _,_,_+1,.nil=>.nil
 | _,_,n+1,.cons r t=>.cons r (Vals.take n t)
theorem Vals.drop:∀ {xs:List V} {us:List Value} (n:Nat),Vals xs us->Vals (xs.drop n) (us.drop n)
 | _,_,0,r=>r
 | _,_,_+1,.nil=>.nil
 | _,_,n+1,.cons _ t=>Vals.drop n t
def RelO:Option V->Option Value->Prop
 | some v,some u=>RelV v u
 | none,none=>True
 | _,_=>False
def KV{κ:Type}:List (κ×V)->List (κ×Value)->Prop:=Paired fun (p:κ×V) (q:κ×Value)=>p.1=q.1/\RelV p.2 q.2
def kV:Key->V
 | .inl i=>.int i
 | .inr x=>.str x
inductive HO where
  | lst (xs:List V)
  | tup (xs:List V)
  | dK (kvs:List (Key×V)) | dT (kvs:List (List Key×V))
  | set (S:Int->Bool) (n:Nat)
  | ins (C dx:Addr) (fs:List (Str×V))
  | own (x:Addr)
  | xd (fs:List (Str×V))
  | met (f x:Addr)
  | rng (lo hi:Int)
  | frz (o:Obj) (u:HO)
  | tbl (ps:Array Value)
  | ext (φ:Heap->Prop)
abbrev Hp:=Addr->Option HO
def upd(H:Hp)(a:Addr)(o:HO):Hp:=fun b=>if b=a then some o else H b
theorem upd_same{H:Hp}{a:Addr}{o:HO}:upd H a o a=some o:=by unfold upd;rw [if_pos rfl]
theorem upd_ne{H:Hp}{a b:Addr}{o:HO}(h:b≠a):upd H a o b=H b:=by unfold upd;rw [if_neg h]
theorem ne_of{H:Hp}{a b:Addr}{o u:HO}(h:H a=some o)(h':H b=some u)(d:o≠u):a≠b:=by
 intro e;subst e;rw [h] at h';exact d (Option.some.inj h')
theorem ne_of_none{H:Hp}{a b:Addr}{o:HO}(h:H a=some o)(h':H b=none):a≠b:=by
 intro e;subst e;rw [h] at h';cases h'
section
variable (P:Program) (w:World)
def ObjOk (H : Hp) (h : Heap) (a : Addr) : HO → Prop
 | .lst xs => xs.length ≤ sizeLine ∧ ∃ (its : List Value) (n : Nat), Vals xs its ∧ h.get? a = some { cls := .type "list", data := .seq its.toArray n }
 | .tup xs => xs.length ≤ sizeLine ∧ ∃ its : List Value, Vals xs its ∧ IsTup h a its.toArray
 | .dK kvs => kvs.length ≤ sizeLine ∧ (a == sysModules) = false ∧ ∃ vs, KV kvs vs ∧ h.DictOf (mixKind P w) a vs
 | .dT kvs => kvs.length ≤ sizeLine ∧ (a == sysModules) = false ∧ ∃ xs : List (List Key × Addr × Value),
   Paired (fun (p : List Key × V) (q : List Key × Addr × Value) => p.1 = q.1 ∧ H q.2.1 = some (.tup (p.1.map kV)) ∧ RelV p.2 q.2.2) kvs xs ∧
   ∃ o es ep, h.get? a = some o ∧ o.ExactDict ∧ o.data = .dict es ep ∧ es.toList = xs.map (entryOfKey (tupleKind (mixKind P w))) ∧ (xs.map (·.1)).Nodup
 | .set S n => h.SetOf (intKind P w) a S n
 | .ins C dx fs => H dx = some (.own a) ∧ fs.length ≤ 1000 ∧ dx ≠ a ∧ h.get? a = some (PySem.W.instObj C dx) ∧
   ∃ mA, h.Ns1 dx mA ∧ (∀ f, RelO (fs.lookup f) (mA f)) ∧ PySem.Within mA (fs.map (·.1))
 | .own _ => ∃ o, h.get? a = some o
 | .xd fs => ∃ mA, h.Ns1 a mA ∧ ∀ f, RelO (fs.lookup f) (mA f)
 | .rng lo hi => ∃ t u v, h.get? a = some { cls := .type "range", data := .fields #[.int lo t, .int hi u, .int 1 v] }
 | .frz o u => h.get? a = some o ∧ ObjOk H h a u
 | .tbl ps => h.get? a = some { cls := .none, data := .fields ps }
 | .met f x => h.get? a = some (PySem.W.methodObj (.ref f) (.ref x))
 | .ext φ => φ h ∧ (∃ o, h.get? a = some o) ∧ ∀ h1 h2 : Heap, φ h1 → (∀ o, h1.get? a = some o → h2.get? a = some o) → φ h2
def HOk(H:Hp)(h:Heap):Prop:=∀ a o,H a=some o->ObjOk P w H h a o
end
section
variable {P:Program} {w:World} {H H':Hp} {h h':Heap} {a:Addr} {o:HO}
theorem ObjOk.lt(x:ObjOk P w H h a o):a<h.objs.size:=by
 cases o with
 | lst xs=>obtain⟨_,_,_,_,e⟩:=x;exact Heap.lt_size e
 | tup xs=>obtain⟨_,_,_,p⟩:=x;exact p.lt
 | dK kvs=>obtain⟨_,_,_,_,o,_,_,e,_⟩:=x;exact Heap.lt_size e
 | dT kvs=>obtain⟨_,_,_,_,o,_,_,e,_⟩:=x;exact Heap.lt_size e
 | set S n=>obtain⟨o,_,_,_,e,_⟩:=x;exact Heap.lt_size e
 | ins C dx fs=>obtain⟨_,_,_,e,_⟩:=x;exact Heap.lt_size e
 | own y=>obtain⟨_,e⟩:=x;exact Heap.lt_size e
 | xd fs=>obtain⟨_,⟨_,_,_,e,_⟩,_⟩:=x;exact Heap.lt_size e
 | rng lo hi=>obtain⟨_,_,_,e⟩:=x;exact Heap.lt_size e
 | frz ob u=>obtain⟨e,_⟩:=x;exact Heap.lt_size e
 | tbl ps=>exact Heap.lt_size (show h.get? a=some _ from x)
 | met f y=>exact Heap.lt_size (show h.get? a=some _ from x)
 | ext φ=>obtain⟨_,⟨_,e⟩,_⟩:=x;exact Heap.lt_size e
theorem Paired.mapP{α β:Type}{F G:α->β->Prop}:∀ {l₁:List α} {l₂:List β},Paired F l₁ l₂->(∀ a b,F a b->G a b)->Paired G l₁ l₂
 | _,_,.nil,_=>.nil
 | _,_,.cons r t,f=>.cons (f _ _ r) (Paired.mapP t f)
theorem ObjOk.stay(x:ObjOk P w H h a o)(k:∀ b u,(b=a\/H b=some (.own a))->h.get? b=some u->h'.get? b=some u)
  (ho:∀ b,H b=some (.own a)->H' b=some (.own a)) (ht:∀ b xs,H b=some (.tup xs)->H' b=some (.tup xs)):ObjOk P w H' h' a o:=by
 induction o with
 | lst xs=>obtain⟨z,its,n,r,e⟩:=x;exact⟨z,its,n,r,k _ _ (.inl rfl) e⟩
 | tup xs=>obtain⟨z,its,r,ob,e,c⟩:=x;exact⟨z,its,r,ob,k _ _ (.inl rfl) e,c⟩
 | dK kvs=>obtain⟨z,y,vs,r,ob,es,ep,e,c⟩:=x;exact⟨z,y,vs,r,ob,es,ep,k _ _ (.inl rfl) e,c⟩
 | dT kvs=>
  obtain⟨z,y,xs,r,ob,es,ep,e,c⟩:=x
  exact⟨z,y,xs,Paired.mapP r fun p q z=>⟨z.1,ht _ _ z.2.1,z.2.2⟩,ob,es,ep,k _ _ (.inl rfl) e,c⟩
 | set S n=>obtain⟨ob,es,ep,t,e,c⟩:=x;exact⟨ob,es,ep,t,k _ _ (.inl rfl) e,c⟩
 | ins C dx fs=>
  obtain⟨d,z,ne,e,mA,⟨od,es,ep,e2,c⟩,r⟩:=x
  exact⟨ho _ d,z,ne,k _ _ (.inl rfl) e,mA,⟨od,es,ep,k _ _ (.inr d) e2,c⟩,r⟩
 | own y=>obtain⟨ob,e⟩:=x;exact⟨ob,k _ _ (.inl rfl) e⟩
 | xd fs=>obtain⟨mA,⟨od,es,ep,e,c⟩,r⟩:=x;exact⟨mA,⟨od,es,ep,k _ _ (.inl rfl) e,c⟩,r⟩
 | rng lo hi=>obtain⟨t,u,v,e⟩:=x;exact⟨t,u,v,k _ _ (.inl rfl) e⟩
 | frz ob u ih=>obtain⟨e,q⟩:=x;exact⟨k _ _ (.inl rfl) e,ih q⟩
 | tbl ps=>
  have e:h.get? a=some { cls:=.none,data:=.fields ps }:=x
  show h'.get? a=some { cls:=.none,data:=.fields ps }
  exact k a _ (.inl rfl) e
 | met f y=>
  have e:h.get? a=some (PySem.W.methodObj (.ref f) (.ref y)):=x
  show h'.get? a=some (PySem.W.methodObj (.ref f) (.ref y))
  exact k a _ (.inl rfl) e
 | ext φ=>obtain⟨p,⟨o,e⟩,st⟩:=x;exact⟨st _ _ p fun o q=>k _ _ (.inl rfl) q,⟨o,k _ _ (.inl rfl) e⟩,st⟩
theorem HOk.lt(x:HOk P w H h)(e:H a=some o):a<h.objs.size:=(x a o e).lt
theorem HOk.fresh(x:HOk P w H h)(e:h.objs.size<=a):H a=none:=by
 cases q:H a with
 | none=>rfl
 | some u=>exact absurd (Nat.lt_of_lt_of_le (x.lt q) e) (Nat.lt_irrefl _)
theorem HOk.kept(x:HOk P w H h)(k:∀ b u,h.get? b=some u->h'.get? b=some u):HOk P w H h':=fun a o e=>
 (x a o e).stay (fun b u _ q=>k b u q) (fun _ q=>q) fun _ _ q=>q
theorem HOk.laid(x:HOk P w H h)(k:∀ b u,h.get? b=some u->h'.get? b=some u)(hp:h.objs.size<=a)(new:ObjOk P w (upd H a o) h' a o):HOk P w (upd H a o) h':=fun b u e=>by
 have hn:=x.fresh hp
 by_cases hb:b=a
 ·subst hb;rw [upd_same] at e;cases e;exact new
 ·rw [upd_ne hb] at e
  exact (x b u e).stay (fun c v _ q=>k c v q) (fun c q=>by rw [upd_ne (ne_of_none q hn)];exact q) fun c xs q=>by rw [upd_ne (ne_of_none q hn)];exact q
end
def Rd(H:Hp)(a:Addr)(u:HO):Prop:=H a=some u\/∃ o,H a=some (.frz o u)
theorem Rd.ok{P:Program}{w:World}{H:Hp}{h:Heap}{a:Addr}{u:HO}(r:Rd H a u)(x:HOk P w H h):ObjOk P w H h a u:=by
 rcases r with r | ⟨o,r⟩
 ·exact x a u r
 ·obtain⟨_,q⟩:=x a _ r
  exact q
def Mut:Option HO->Prop
 | some (.lst _)=>True
 | some (.dK _)=>True
 | some (.dT _)=>True
 | some (.set _ _)=>True
 | some (.ins _ _ _)=>True
 | some (.ext _)=>True
 | _=>False
section
variable {P:Program} {w:World} {H:Hp} {h h':Heap} {x e:Addr} {o':HO}
theorem HOk.write(ok:HOk P w H h)(mu:Mut (H x))(he:e=x\/H e=some (.own x))(k:∀ b u,b≠e->h.get? b=some u->h'.get? b=some u)(heo:∃ u,h'.get? e=some u)
  (new:ObjOk P w (upd H x o') h' x o'):HOk P w (upd H x o') h':=fun b u q=>by
 have nown:∀ c y,H c=some (.own y)->c≠x:=fun c y r z=>by subst z;rw [r] at mu;exact mu
 have ntup:∀ c xs,H c=some (.tup xs)->c≠x:=fun c xs r z=>by subst z;rw [r] at mu;exact mu
 by_cases hb:b=x
 ·subst hb;rw [upd_same] at q;cases q;exact new
 ·rw [upd_ne hb] at q
  by_cases hbe:b=e
  ·have q':H b=some (.own x):=by
    rcases he with z | z
    ·exact absurd (hbe.trans z) hb
    ·rw [hbe];exact z
   rw [q] at q';cases q'
   obtain⟨v,hv⟩:=heo
   exact⟨v,by rw [hbe];exact hv⟩
  ·refine (ok b u q).stay (fun c v hc r=>k c v ?_ r) (fun c r=>by rw [upd_ne (nown c b r)];exact r) fun c xs r=>by rw [upd_ne (ntup c xs r)];exact r
   rcases hc with rfl | hc
   ·exact hbe
   ·rintro rfl
    rcases he with z | z
    ·exact nown c b hc z
    ·rw [hc] at z;cases z;exact hb rfl
end
structure Un (fs ex:List Addr) (H H':Hp) (h h':Heap):Prop where
 keep:∀ b o,h.get? b=some o->H b=none->b∉fs->b∉ex->h'.get? b=some o
 slot:∀ b o,h.get? b=some o->H b=none->b∈fs->b∉ex->∃ sl,h'.get? b=some { o with slots:=sl }
 free:∀ b o,h.get? b=some o->H b=none->b∉ex->H' b=none
 there:∀ b o,h.get? b=some o->b∉ex->∃ o',h'.get? b=some o'
 tups:∀ b xs,H b=some (.tup xs)->H' b=some (.tup xs)
 frzs:∀ b o u,H b=some (.frz o u)->H' b=some (.frz o u)
 tbls:∀ b ps,H b=some (.tbl ps)->∃ more,H' b=some (.tbl (ps++more))
section
variable {fs fs' ex ex':List Addr} {H H1 H2:Hp} {h h1 h2 h':Heap} {a x e:Addr} {o:HO}
theorem Un.any(u:Un fs ex H H1 h h1){b:Addr}{ob:Obj}(q:h.get? b=some ob)(n:H b=none)(hx:b∉ex):∃ sl,h1.get? b=some { ob with slots:=sl }:=by
 by_cases hb:b∈fs
 ·exact u.slot b ob q n hb hx
 ·exact⟨ob.slots,u.keep b ob q n hb hx⟩
theorem Un.kept(k:∀ b u,h.get? b=some u->h'.get? b=some u):Un fs ex H H h h':=
 ⟨fun b ob q _ _ _=>k b ob q,fun b ob q _ _ _=>⟨ob.slots,k b ob q⟩,fun _ _ _ n _=>n,fun b ob q _=>⟨ob,k b ob q⟩,fun _ _ q=>q,fun _ _ _ q=>q,fun _ ps q=>⟨#[],by rw [q];simp⟩⟩
theorem Un.refl:Un fs ex H H h h:=Un.kept fun _ _ q=>q
theorem Un.laid(k:∀ b u,h.get? b=some u->h'.get? b=some u)(hp:h.objs.size<=a)(hn:H a=none):Un fs ex H (upd H a o) h h' where
 keep:=fun b u q _ _ _=>k b u q
 slot:=fun b u q _ _ _=>⟨u.slots,k b u q⟩
 free:=fun b u q n _=>by rw [upd_ne (Nat.ne_of_lt (Nat.lt_of_lt_of_le (Heap.lt_size q) hp))];exact n
 there:=fun b u q _=>⟨u,k b u q⟩
 tups:=fun b xs q=>by rw [upd_ne (ne_of_none q hn)];exact q
 frzs:=fun b u xs q=>by rw [upd_ne (ne_of_none q hn)];exact q
 tbls:=fun b ps q=>⟨#[],by rw [upd_ne (ne_of_none q hn),q];simp⟩
theorem Un.write(mu:Mut (H x))(he:e=x\/H e=some (.own x))(k:∀ b u,b≠e->h.get? b=some u->h'.get? b=some u)(heo:∃ u,h'.get? e=some u):Un fs ex H (upd H x o) h h':=by
 have hx:∀ b,H b=none->b≠x:=fun b n z=>by subst z;rw [n] at mu;exact mu
 have hb:∀ b,H b=none->b≠e:=fun b n z=>by
  subst z
  rcases he with r | r
  ·exact hx b n r
  ·rw [n] at r;cases r
 have hm:∀ b u,H b=some u->¬ Mut (some u)->b≠x:=fun b u q nm z=>by subst z;rw [q] at mu;exact nm mu
 refine⟨fun b u q n _ _=>k b u (hb b n) q,fun b u q n _ _=>⟨u.slots,k b u (hb b n) q⟩,fun b u q n _=>by rw [upd_ne (hx b n)];exact n,fun b u q _=>?_,
  fun b xs q=>by rw [upd_ne (hm b _ q fun z=>z)];exact q,fun b u xs q=>by rw [upd_ne (hm b _ q fun z=>z)];exact q,fun b ps q=>⟨#[],by rw [upd_ne (hm b _ q fun z=>z),q];simp⟩⟩
 by_cases hbe:b=e
 ·subst hbe;exact heo
 ·exact⟨u,k b u hbe q⟩
end
def trk(h:Heap)(H:Hp):List Addr:=(List.range h.objs.size).filter fun a=>(H a).isSome
def hidT(h:Heap)(H:Hp):Heap:=PySem.W.hideAll h (trk h H)
theorem hidT_size(h:Heap)(H:Hp):(hidT h H).objs.size=h.objs.size:=PySem.W.hideAll_size _ _
theorem hidT_get{h:Heap}{H:Hp}{b:Addr}{o:Obj}(e:h.get? b=some o)(n:H b=none):(hidT h H).get? b=some o:=
 PySem.W.hideAll_get _ e fun hm=>by
  have q:(H b).isSome=true:=(List.mem_filter.mp hm).2
  rw [n] at q;simp at q
theorem of_hidT{h:Heap}{H:Hp}{b:Addr}{o:Obj}(e:(hidT h H).get? b=some o):h.get? b=some o/\H b=none:=by
 have e':h.get? b=some o:=PySem.W.of_hideAll (trk h H) e
 refine⟨e',?_⟩
 cases q:H b with
 | none=>rfl
 | some x=>
  have hm:b∈trk h H:=List.mem_filter.mpr ⟨List.mem_range.mpr (Heap.lt_size e'),by simp [q]⟩
  have z:(hidT h H).get? b=none:=PySem.W.hideAll_none (trk h H) hm
  rw [z] at e;cases e
def allNews(g h:Heap)(L:Addr):List (Addr×Obj):=(List.range h.objs.size).filterMap fun a=>if a=L\/(g.get? a).isSome=true then none else (h.get? a).map fun o=>(a,o)
def rest(g h:Heap)(L d:Addr):List (Addr×Obj):=(allNews g h L).filter fun p=>decide (p.1≠d)
end L2
namespace L2
open PySem PySem.Spec PyProof.Rows
structure Mod (K:PySem.W.Frag) (mg:Str->Option Value) (base:Heap):Prop where
 kin:K.In base
 glob:base.Ns mainGlobals mg
 blt:∃ mb,base.Ns builtinsNs mb/\∀ x:Str,x≠"__name__"->mb x=bootBuiltins x
 nolimit:base.NoLimit
structure Cx where
 prog:Program
 w:World
 K:PySem.W.Frag
 mg:Str->Option Value
 base:Heap
 A:Around
 N:List Str
 s₀:Shared
 H₀:Hp
 env:Env
 outer:List Env
 stack:List Env
 ex:List Addr
 fn:Str->Bool
 calm:Bool
 pn:List (Addr×Obj)
 xe:Value->Shared->Prop
def frs(l:List Env):List Addr:=l.filterMap (·.frame)
abbrev Cx.fs (X:Cx):List Addr:=frs X.outer
def Vis(sc:Scope)(x:Str):Prop:=sc.names.lookup x=some .local\/sc.names.lookup x=some .cell\/sc.names.lookup x=some .free
def Loc(sc:Scope)(x:Str):Prop:=sc.names.lookup x=some .local\/sc.names.lookup x=some .cell
def Look(env:Env)(h:Heap)(m:Str->Option Value)(x:Str)(u:Value):Prop:=
 (env.kindOf x=some .local/\m x=some u)\/((env.kindOf x=some .cell\/env.kindOf x=some .free)/\∃ c,env.cells.lookup x=some c/\h.IsCell c (some u))
structure Cx.Ok (X:Cx):Prop where
 mod:Mod X.K X.mg X.base
 kind:X.env.scope.kind=.function
 glob:X.env.globals=mainGlobals
 blt:X.env.builtins=builtinsNs
 above:X.s₀.heap.objs.size<=X.env.locals
 inj:∀ x y c,X.env.cells.lookup x=some c->X.env.cells.lookup y=some c->x=y
 has:∀ x,(X.env.kindOf x=some .cell\/X.env.kindOf x=some .free)->∃ c,X.env.cells.lookup x=some c
 cab:∀ x c,X.fn x=true->X.env.cells.lookup x=some c->X.s₀.heap.objs.size<=c
 hd:X.calm=true->X.A.handled=none
 frames:X.A.frames=some X.stack
 stk:X.stack=X.outer\/(X.stack=X.env::X.outer/\X.env.frame=some X.env.locals)
 exf:∀ b∈X.ex,b≠X.env.locals/\∀ x c,X.env.cells.lookup x=some c->c≠b
 bs:∀ b o,X.base.get? b=some o->X.s₀.heap.get? b=some o/\X.H₀ b=none
 bsz:X.base.objs.size<=X.s₀.heap.objs.size
 noex:∀ b o,X.base.get? b=some o->b∉X.ex
 exfs:∀ b∈X.ex,b∉X.fs
 funs:X.s₀.heap.FunFrames X.base X.outer
 frf:∀ b∈X.fs,X.H₀ b=none
structure Inv (X:Cx) (pins:List (Addr×Obj)) (σ:List (Option V)) (H:Hp) (s:Shared):Prop where
 ok:X.Ok
 os:s.os=X.s₀.os
 bare:AllBare s.gens
 base:Un X.fs X.ex X.H₀ H X.s₀.heap s.heap
 loc:∃ m,s.heap.Ns X.env.locals m/\∀ (i:Nat) (x:Str) (v:V),X.N[i]? = some x->σ[i]? = some (some v)->Vis X.env.scope x->∃ u,RelV v u/\Look X.env s.heap m x u
 cell:∀ x c,X.env.cells.lookup x=some c->∃ v,s.heap.IsCell c v
 free:H X.env.locals=none
 freeC:∀ x c,X.env.cells.lookup x=some c->H c=none
 pin:∀ p∈X.pn++pins,s.heap.get? p.1=some p.2/\H p.1=none/\p.1≠X.env.locals/\p.1∉X.fs/\∀ v,p.2.data≠.cell v
 hok:HOk X.prog X.w H s.heap
 len:σ.length=X.N.length
section
variable {X:Cx} {pins:List (Addr×Obj)} {σ:List (Option V)} {H H':Hp} {s:Shared} {h':Heap}
theorem Cx.Ok.nofr(ok:X.Ok){b:Addr}{o:Obj}(e:X.base.get? b=some o):b∉X.fs:=fun hb=>by
 have:=(ok.funs.mem hb).1
 rw [e] at this;cases this
theorem Inv.bs(I:Inv X pins σ H s):∀ b o,X.base.get? b=some o->s.heap.get? b=some o/\H b=none:=fun b o e=>
 ⟨I.base.keep b o (I.ok.bs b o e).1 (I.ok.bs b o e).2 (I.ok.nofr e) (I.ok.noex b o e),I.base.free b o (I.ok.bs b o e).1 (I.ok.bs b o e).2 (I.ok.noex b o e)⟩
theorem Inv.bk(I:Inv X pins σ H s):∀ b o,X.base.get? b=some o->s.heap.get? b=some o:=fun b o e=>(I.bs b o e).1
theorem Inv.mod(I:Inv X pins σ H s):Mod X.K X.mg X.base:=I.ok.mod
theorem Inv.kIn(I:Inv X pins σ H s):X.K.In s.heap:=I.ok.mod.kin.keeps I.bk
theorem Inv.lt(I:Inv X pins σ H s):X.env.locals<s.heap.objs.size:=let ⟨_,hn,_⟩:=I.loc;hn.lt
theorem Inv.sz(I:Inv X pins σ H s):X.s₀.heap.objs.size<=s.heap.objs.size:=Nat.le_trans I.ok.above (Nat.le_of_lt I.lt)
theorem Inv.nofs(I:Inv X pins σ H s){a:Addr}(h:s.heap.objs.size<=a):a∉X.fs:=fun hb=>by
 obtain⟨_,o,ho,_⟩:=I.ok.funs.mem hb
 exact absurd (Nat.lt_of_lt_of_le (Heap.lt_size ho) (Nat.le_trans I.sz h)) (Nat.lt_irrefl _)
theorem Inv.cne(I:Inv X pins σ H s):∀ x c,X.env.cells.lookup x=some c->c≠X.env.locals:=fun x c e z=>by
 obtain⟨v,o,ho,hd⟩:=I.cell x c e
 obtain⟨m,⟨o',es,ep,ho',hd',_⟩,_⟩:=I.loc
 rw [z,ho'] at ho;cases ho;rw [hd'] at hd;cases hd
theorem Inv.funs(I:Inv X pins σ H s):s.heap.FunFrames X.base X.outer:=by
 have all:∀ (l:List Env),(∀ b∈frs l,b∈X.fs)->X.s₀.heap.FunFrames X.base l->s.heap.FunFrames X.base l:=by
  intro l
  induction l with
  | nil=>intro _ _;trivial
  | cons env r ih=>
   intro hs hl
   obtain⟨hk,⟨L,o,hf,hn,ho,hd⟩,hr⟩:=hl
   have hL:L∈X.fs:=hs L (by unfold frs;rw [List.filterMap_cons,hf];exact List.mem_cons_self)
   obtain⟨sl,e⟩:=I.base.slot L o ho (I.ok.frf L hL) hL fun z=>I.ok.exfs L z hL
   exact⟨hk,⟨L,_,hf,hn,e,hd⟩,ih (fun b hb=>hs b (by unfold frs;rw [List.filterMap_cons,hf];exact List.mem_cons_of_mem _ hb)) hr⟩
 exact all X.outer (fun _ hb=>hb) I.ok.funs
theorem Inv.stack(I:Inv X pins σ H s):s.heap.FunFrames X.base X.stack:=by
 rcases I.ok.stk with e | ⟨e,hf⟩
 ·rw [e];exact I.funs
 ·rw [e]
  obtain⟨m,hn,_⟩:=I.loc
  refine .cons (by rw [I.ok.kind];decide) hf hn ?_ I.funs
  exact Heap.get?_none_of_le (Nat.le_trans I.ok.bsz I.ok.above)
theorem Inv.stkSub(I:Inv X pins σ H s):∀ b∈frs X.stack,b∈X.env.locals::X.fs:=fun b hb=>by
 rcases I.ok.stk with e | ⟨e,hf⟩
 ·rw [e] at hb;exact List.mem_cons_of_mem _ hb
 ·rw [e] at hb
  unfold frs at hb
  rw [List.filterMap_cons,hf] at hb
  exact hb
theorem Inv.stkFree(I:Inv X pins σ H s):∀ b∈frs X.stack,H b=none:=fun b hb=>by
 rcases List.mem_cons.mp (I.stkSub b hb) with e | hb
 ·rw [e];exact I.free
 ·obtain⟨_,o,ho,_⟩:=I.ok.funs.mem hb
  exact I.base.free b o ho (I.ok.frf b hb) fun z=>I.ok.exfs b z hb
theorem Inv.step{g':Array GenState}{t':Nat}{d':Drawn}{ch:List Addr}(I:Inv X pins σ H s)
  (hch:∀ b∈ch,(b∈X.ex\/X.s₀.heap.objs.size<=b)/\b≠X.env.locals/\(∀ x c,X.env.cells.lookup x=some c->c≠b)/\∀ p∈X.pn++pins,p.1≠b)
  (keep:∀ b o,b≠X.env.locals->b∉X.fs->b∉ch->s.heap.get? b=some o->H b=none->h'.get? b=some o)
  (slot:∀ b o,b≠X.env.locals->b∈X.fs->b∉ch->s.heap.get? b=some o->H b=none->∃ sl,h'.get? b=some { o with slots:=sl }) (free:∀ b o,b∉ch->s.heap.get? b=some o->H b=none->H' b=none)
  (there:∀ b o,b∉ch->s.heap.get? b=some o->∃ o',h'.get? b=some o')
  (tups:∀ b xs,H b=some (.tup xs)->H' b=some (.tup xs)) (frzs:∀ b o u,H b=some (.frz o u)->H' b=some (.frz o u)) (tbls:∀ b ps,H b=some (.tbl ps)->∃ more,H' b=some (.tbl (ps++more)))
  (ns:∀ m,s.heap.Ns X.env.locals m->h'.Ns X.env.locals m) (hok:HOk X.prog X.w H' h') (hg:AllBare g') :
  Inv X pins σ H' { s with heap:=h',gens:=g',drawn:=d',toks:=t' }:=by
 have neL:∀ b o,X.s₀.heap.get? b=some o->b≠X.env.locals:=fun b o e=>Nat.ne_of_lt (Nat.lt_of_lt_of_le (Heap.lt_size e) I.ok.above)
 have neC:∀ b o,X.s₀.heap.get? b=some o->b∉X.ex->b∉ch:=fun b o e hx hb=>by
  rcases (hch b hb).1 with z | z
  ·exact hx z
  ·exact absurd (Nat.lt_of_lt_of_le (Heap.lt_size e) z) (Nat.lt_irrefl _)
 have cellK:∀ x c,X.env.cells.lookup x=some c->∀ v,s.heap.IsCell c v->h'.IsCell c v:=fun x c e v ⟨o,ho,hd⟩=>by
  have nch:c∉ch:=fun z=>(hch c z).2.2.1 x c e rfl
  by_cases hc:c∈X.fs
  ·obtain⟨sl,q⟩:=slot c o (I.cne x c e) hc nch ho (I.freeC x c e)
   exact⟨_,q,hd⟩
  ·exact⟨o,keep c o (I.cne x c e) hc nch ho (I.freeC x c e),hd⟩
 refine⟨I.ok,I.os,hg,⟨fun b o e n hb hx=>?_,fun b o e n hb hx=>?_,fun b o e n hx=>?_,fun b o e hx=>?_,fun b xs e=>tups b xs (I.base.tups b xs e),fun b o xs e=>frzs b o xs (I.base.frzs b o xs e),fun b ps e=>?_⟩,?_,fun x c e=>?_,?_,fun x c e=>?_,fun p hp=>?_,hok,I.len⟩
 ·exact keep b o (neL b o e) hb (neC b o e hx) (I.base.keep b o e n hb hx) (I.base.free b o e n hx)
 ·obtain⟨sl,e1⟩:=I.base.slot b o e n hb hx
  obtain⟨sl',e2⟩:=slot b _ (neL b o e) hb (neC b o e hx) e1 (I.base.free b o e n hx)
  exact⟨sl',e2⟩
 ·obtain⟨o',e1⟩:=I.base.there b o e hx
  exact free b o' (neC b o e hx) e1 (I.base.free b o e n hx)
 ·obtain⟨o',e1⟩:=I.base.there b o e hx
  exact there b o' (neC b o e hx) e1
 ·obtain⟨m1,e1⟩:=I.base.tbls b ps e
  obtain⟨m2,e2⟩:=tbls b _ e1
  exact⟨m1++m2,by rw [e2,Array.append_assoc]⟩
 ·obtain⟨m,hn,hl⟩:=I.loc
  refine⟨m,ns m hn,fun i x v e1 e2 e3=>?_⟩
  obtain⟨u,r,l⟩:=hl i x v e1 e2 e3
  refine⟨u,r,?_⟩
  rcases l with l | ⟨k,c,e,z⟩
  ·exact .inl l
  ·exact .inr ⟨k,c,e,cellK x c e _ z⟩
 ·obtain⟨v,z⟩:=I.cell x c e
  exact⟨v,cellK x c e v z⟩
 ·obtain⟨m,⟨o,_,_,ho,_⟩,_⟩:=I.loc
  exact free _ o (fun z=>(hch _ z).2.1 rfl) ho I.free
 ·obtain⟨v,o,ho,hd⟩:=I.cell x c e
  exact free c o (fun z=>(hch c z).2.2.1 x c e rfl) ho (I.freeC x c e)
 ·obtain⟨e,n,ne,nf,d⟩:=I.pin p hp
  have nch:p.1∉ch:=fun z=>(hch p.1 z).2.2.2 p hp rfl
  exact⟨keep p.1 p.2 ne nf nch e n,free p.1 p.2 nch e n,ne,nf,d⟩
theorem Inv.un{t':Nat}(I:Inv X pins σ H s)(u:Un X.fs [] H H' s.heap h')(hok:HOk X.prog X.w H' h'):Inv X pins σ H' { s with heap:=h',toks:=t' }:=by
 obtain⟨m,⟨o,es,ep,ho,r⟩,_⟩:=id I.loc
 obtain⟨sl,hL⟩:=u.any ho I.free (by simp)
 exact I.step (g':=s.gens) (d':=s.drawn) (ch:=[]) (fun _ z=>nomatch z) (fun b o _ hb _ e n=>u.keep b o e n hb (by simp)) (fun b o _ hb _ e n=>u.slot b o e n hb (by simp)) (fun b o _ e n=>u.free b o e n (by simp)) (fun b o _ e=>u.there b o e (by simp)) u.tups u.frzs u.tbls (fun m' hm=>by
  obtain⟨o',es',ep',ho',r'⟩:=hm
  rw [ho] at ho';cases ho'
  exact⟨_,es',ep',hL,r'⟩) hok I.bare
theorem Inv.call{g':Array GenState}{t':Nat}{d':Drawn}{ch:List Addr}(I:Inv X pins σ H s)(u:Un (frs X.stack) ch H H' s.heap h')(hok:HOk X.prog X.w H' h')(hg:AllBare g')
  (hch:∀ b∈ch,(b∈X.ex\/X.s₀.heap.objs.size<=b)/\b≠X.env.locals/\(∀ x c,X.env.cells.lookup x=some c->c≠b)/\∀ p∈X.pn++pins,p.1≠b) :
  Inv X pins σ H' { s with heap:=h',gens:=g',drawn:=d',toks:=t' }:=by
 obtain⟨m,⟨o,es,ep,ho,r⟩,_⟩:=id I.loc
 obtain⟨sl,hL⟩:=u.any ho I.free fun z=>(hch _ z).2.1 rfl
 exact I.step (ch:=ch) hch (fun b o hL hb hc e n=>u.keep b o e n (fun z=>(List.mem_cons.mp (I.stkSub b z)).elim hL hb) hc) (fun b o _ _ hc e n=>u.any e n hc) (fun b o hc e n=>u.free b o e n hc) (fun b o hc e=>u.there b o e hc) u.tups u.frzs u.tbls (fun m' hm=>by
  obtain⟨o',es',ep',ho',r'⟩:=hm
  rw [ho] at ho';cases ho'
  exact⟨_,es',ep',hL,r'⟩) hok hg
theorem Inv.turned{t':Nat}{it:Addr}(I:Inv X pins σ H s)(k:∀ b o,b≠it->s.heap.get? b=some o->h'.get? b=some o)(hn:H it=none)(hL:it≠X.env.locals)
  (h1:it∈X.ex\/X.s₀.heap.objs.size<=it) (h2:∀ x c,X.env.cells.lookup x=some c->c≠it) (h3:∀ p∈X.pn++pins,p.1≠it):Inv X pins σ H { s with heap:=h',toks:=t' }:=by
 have nit:∀ b u,H b=some u->b≠it:=fun b u e z=>by rw [z,hn] at e;cases e
 refine I.step (g':=s.gens) (d':=s.drawn) (ch:=[it]) (fun b hb=>?_) (fun b o _ _ hc e _=>k b o (fun z=>hc (by simp [z])) e) (fun b o _ _ hc e _=>⟨o.slots,k b o (fun z=>hc (by simp [z])) e⟩) (fun _ _ _ _ n=>n)
  (fun b o hc e=>⟨o,k b o (fun z=>hc (by simp [z])) e⟩) (fun _ _ e=>e) (fun _ _ _ e=>e) (fun b ps e=>⟨#[],by rw [e];simp⟩) (fun m hm=>?_) (fun b u e=>?_) I.bare
 ·have e:b=it:=by simpa using hb
  subst e
  exact⟨h1,hL,h2,h3⟩
 ·obtain⟨o,es,ep,ho,r⟩:=hm
  exact⟨o,es,ep,k _ o (Ne.symm hL) ho,r⟩
 ·refine (I.hok b u e).stay (fun c v hc q=>k c v ?_ q) (fun _ q=>q) fun _ _ q=>q
  rcases hc with z | z
  ·rw [z];exact nit b u e
  ·exact nit c _ z
theorem Inv.tok(I:Inv X pins σ H s)(t:Nat):Inv X pins σ H { s with toks:=t }:=I.un (h':=s.heap) (t':=t) Un.refl I.hok
theorem Inv.kept{t':Nat}(I:Inv X pins σ H s)(k:∀ b u,s.heap.get? b=some u->h'.get? b=some u):Inv X pins σ H { s with heap:=h',toks:=t' }:=I.un (Un.kept k) (I.hok.kept k)
theorem Inv.laid{a:Addr}{o:HO}{t':Nat}(I:Inv X pins σ H s)(k:∀ b u,s.heap.get? b=some u->h'.get? b=some u)(hp:s.heap.objs.size<=a)(new:ObjOk X.prog X.w (upd H a o) h' a o):
  Inv X pins σ (upd H a o) { s with heap:=h',toks:=t' }:=I.un (Un.laid k hp (I.hok.fresh hp)) (I.hok.laid k hp new)
theorem Inv.write{x e:Addr}{o:HO}{t':Nat}(I:Inv X pins σ H s)(mu:Mut (H x))(he:e=x\/H e=some (.own x))(k:∀ b u,b≠e->s.heap.get? b=some u->h'.get? b=some u)(heo:∃ u,h'.get? e=some u)
  (new:ObjOk X.prog X.w (upd H x o) h' x o):Inv X pins σ (upd H x o) { s with heap:=h',toks:=t' }:=I.un (Un.write mu he k heo) (I.hok.write mu he k heo new)
theorem Inv.pins_of{pins':List (Addr×Obj)}(I:Inv X pins σ H s)(h:∀ p∈pins',s.heap.get? p.1=some p.2/\H p.1=none/\p.1≠X.env.locals/\p.1∉X.fs/\∀ v,p.2.data≠.cell v):Inv X pins' σ H s:=
 ⟨I.ok,I.os,I.bare,I.base,I.loc,I.cell,I.free,I.freeC,fun p hp=>(List.mem_append.mp hp).elim (fun z=>I.pin p (List.mem_append_left _ z)) (h p),I.hok,I.len⟩
theorem nodup_ix{N:List Str}(hN:N.Nodup){i j:Nat}{x:Str}(a:N[i]? = some x)(b:N[j]? = some x):i=j:=by
 obtain⟨h1,e1⟩:=List.getElem?_eq_some_iff.mp a
 obtain⟨h2,e2⟩:=List.getElem?_eq_some_iff.mp b
 exact (List.getElem_inj hN).mp (e1.trans e2.symm)
theorem store_ok2{M:Model}{A:Around}{E:Value->Shared->Prop}{i:Nat}{x:Str}{v:V}{u:Value}{Q:Unit->Shared->Prop}(I:Inv X pins σ H s)(hN:X.N.Nodup)(hi:X.N[i]? = some x)(hx:Loc X.env.scope x)(r:RelV v u)
  (h:∀ s',Inv X pins (σ.set i (some v)) H s'->(∃ a,Heap.SameBut a s.heap s'.heap/\(a=X.env.locals\/X.env.cells.lookup x=some a))->Q () s') (hf:X.fn x=true\/X.env.scope.names.lookup x=some .local:=by first | exact .inl rfl | exact .inr rfl | assumption):wpAny M A (storeName X.env x u) Q E s:=by
 obtain⟨m,hn,hl⟩:=id I.loc
 have hcls:(X.env.scope.kind==.class || (X.env.scope.kind==.module&&X.env.locals != X.env.globals))=false:=by rw [I.ok.kind];rfl
 have hiσ:i<σ.length:=by rw [I.len];exact (List.getElem?_eq_some_iff.mp hi).1
 have cne:=I.cne
 have tracked:∀ {a:Addr} {h':Heap},(∃ o,s.heap.get? a=some o/\H a=none)->Heap.SameBut a s.heap h'->HOk X.prog X.w H h':=fun {a h'} ha hs b ob e=>by
  obtain⟨_,_,hfree⟩:=ha
  refine (I.hok b ob e).stay (fun c w' hc q=>(hs.2 c ?_).trans q) (fun _ q=>q) fun _ _ q=>q
  rintro rfl
  rcases hc with rfl | hc
  ·rw [hfree] at e;cases e
  ·rw [hfree] at hc;cases hc
 rcases hx with hk | hk
 ·refine wpAny_storeName_local hk hn (fun h' hn' hs=>?_) hcls
  obtain⟨oL,_,_,hoL,_⟩:=id hn
  refine h _ ⟨I.ok,I.os,I.bare,⟨fun b o e n hb hx=>?_,fun b o e n hb hx=>?_,I.base.free,fun b o e hx=>?_,I.base.tups,I.base.frzs,I.base.tbls⟩,⟨_,hn',fun j y v' e1 e2 e3=>?_⟩,fun y c e=>?_,I.free,I.freeC,fun p hp=>?_,tracked ⟨oL,hoL,I.free⟩ hs,by simpa using I.len⟩ ⟨_,hs,.inl rfl⟩
  ·exact (hs.2 b (Nat.ne_of_lt (Nat.lt_of_lt_of_le (Heap.lt_size e) I.ok.above))).trans (I.base.keep b o e n hb hx)
  ·obtain⟨sl,e1⟩:=I.base.slot b o e n hb hx
   exact⟨sl,(hs.2 b (Nat.ne_of_lt (Nat.lt_of_lt_of_le (Heap.lt_size e) I.ok.above))).trans e1⟩
  ·obtain⟨o',e1⟩:=I.base.there b o e hx
   exact⟨o',(hs.2 b (Nat.ne_of_lt (Nat.lt_of_lt_of_le (Heap.lt_size e) I.ok.above))).trans e1⟩
  ·by_cases hj:j=i
   ·subst hj
    rw [hi] at e1;cases e1
    rw [List.getElem?_set_self hiσ] at e2
    cases e2
    exact⟨u,r,.inl ⟨hk,by simp⟩⟩
   ·rw [List.getElem?_set_ne (Ne.symm hj)] at e2
    obtain⟨u',r',q⟩:=hl j y v' e1 e2 e3
    refine⟨u',r',?_⟩
    rcases q with ⟨k,e⟩ | ⟨k,c,e,z⟩
    ·refine .inl ⟨k,?_⟩
     have:y≠x:=fun e=>hj (nodup_ix hN e1 (e▸hi))
     simp [this,e]
    ·exact .inr ⟨k,c,e,z.sameBut hs (cne y c e)⟩
  ·obtain⟨w',z⟩:=I.cell y c e
   exact⟨w',z.sameBut hs (cne y c e)⟩
  ·obtain⟨e,n,ne,nf,d⟩:=I.pin p hp
   exact⟨(hs.2 p.1 ne).trans e,n,ne,nf,d⟩
 ·have hfn:X.fn x=true:=by
   rcases hf with z | z
   ·exact z
   ·rw [z] at hk;cases hk
  obtain⟨c,hc⟩:=I.ok.has x (.inl hk)
  obtain⟨w',z⟩:=I.cell x c hc
  refine wpAny_storeName_cell I.ok.kind hk hc z (fun h' hc' hs=>?_)
  obtain⟨oc,hoc,hocd⟩:=id z
  refine h { s with heap:=h' } ⟨I.ok,I.os,I.bare,⟨fun b o e n hb hx=>?_,fun b o e n hb hx=>?_,I.base.free,fun b o e hx=>?_,I.base.tups,I.base.frzs,I.base.tbls⟩,⟨m,hn.sameBut hs (Ne.symm (cne x c hc)),fun j y v' e1 e2 e3=>?_⟩,fun y c' e=>?_,I.free,I.freeC,fun p hp=>?_,tracked ⟨oc,hoc,I.freeC x c hc⟩ hs,by simpa using I.len⟩ ⟨c,hs,.inr hc⟩
  ·exact (hs.2 b (Nat.ne_of_lt (Nat.lt_of_lt_of_le (Heap.lt_size e) (I.ok.cab x c hfn hc)))).trans (I.base.keep b o e n hb hx)
  ·obtain⟨sl,e1⟩:=I.base.slot b o e n hb hx
   exact⟨sl,(hs.2 b (Nat.ne_of_lt (Nat.lt_of_lt_of_le (Heap.lt_size e) (I.ok.cab x c hfn hc)))).trans e1⟩
  ·obtain⟨o',e1⟩:=I.base.there b o e hx
   exact⟨o',(hs.2 b (Nat.ne_of_lt (Nat.lt_of_lt_of_le (Heap.lt_size e) (I.ok.cab x c hfn hc)))).trans e1⟩
  ·by_cases hj:j=i
   ·subst hj
    rw [hi] at e1;cases e1
    rw [List.getElem?_set_self hiσ] at e2
    cases e2
    exact⟨u,r,.inr ⟨.inl hk,c,hc,hc'⟩⟩
   ·rw [List.getElem?_set_ne (Ne.symm hj)] at e2
    obtain⟨u',r',q⟩:=hl j y v' e1 e2 e3
    refine⟨u',r',?_⟩
    rcases q with q | ⟨k,c',e,z'⟩
    ·exact .inl q
    ·refine .inr ⟨k,c',e,z'.sameBut hs ?_⟩
     rintro rfl
     exact hj (nodup_ix hN e1 (I.ok.inj _ _ _ e hc▸hi))
  ·by_cases hcc:c'=c
   ·subst hcc;exact⟨_,hc'⟩
   ·obtain⟨w2,z2⟩:=I.cell y c' e
    exact⟨w2,z2.sameBut hs hcc⟩
  ·obtain⟨e,n,ne,nf,d⟩:=I.pin p hp
   refine⟨(hs.2 p.1 ?_).trans e,n,ne,nf,d⟩
   intro q
   rw [q,hoc] at e
   have q':oc=p.2:=Option.some.inj e
   exact d w' (by rw [<-q'];exact hocd)
theorem store_ok{M:Model}{A:Around}{E:Value->Shared->Prop}{i:Nat}{x:Str}{v:V}{u:Value}{Q:Unit->Shared->Prop}(I:Inv X pins σ H s)(hN:X.N.Nodup)(hi:X.N[i]? = some x)(hx:Loc X.env.scope x)(r:RelV v u)
  (h:∀ s',Inv X pins (σ.set i (some v)) H s'->Q () s') (hf:X.fn x=true\/X.env.scope.names.lookup x=some .local:=by first | exact .inl rfl | exact .inr rfl | assumption):wpAny M A (storeName X.env x u) Q E s:=
 store_ok2 I hN hi hx r (fun s' I' _=>h s' I') hf
theorem Inv.call'{s':Shared}{ch:List Addr}(I:Inv X pins σ H s)(ho:s'.os=s.os)(u:Un (frs X.stack) ch H H' s.heap s'.heap)(hok:HOk X.prog X.w H' s'.heap)(hg:AllBare s'.gens)
  (hch:∀ b∈ch,(b∈X.ex\/X.s₀.heap.objs.size<=b)/\b≠X.env.locals/\(∀ x c,X.env.cells.lookup x=some c->c≠b)/\∀ p∈X.pn++pins,p.1≠b):Inv X pins σ H' s':=by
 obtain⟨h',g',d',t',o'⟩:=s'
 have e:o'=s.os:=ho
 subst e
 exact I.call (g':=g') (t':=t') (d':=d') u hok hg hch
end
abbrev XK:=Value->Option Addr->Hp->Prop
abbrev St:=List (Option V)
abbrev VK:=V->Hp->Prop
abbrev TE:=St->Hp->VK->Prop
abbrev TT:=St->Hp->(Bool->Hp->Prop)->Prop
abbrev TA:=St->Hp->(List V->Hp->Prop)->Prop
structure Ends where
 nx:St->Hp->Prop
 rt:VK
 bk:St->Hp->Prop:=fun _ _=>False
 ct:St->Hp->Prop:=fun _ _=>False
abbrev TS:=Ends->St->Hp->Prop
def EP(X:Cx)(pins:List (Addr×Obj))(σ:St)(Q:VK)(u:Value)(s':Shared):Prop:=∃ v H',Inv X pins σ H' s'/\RelV v u/\Q v H'
def TP(X:Cx)(pins:List (Addr×Obj))(σ:St)(Q:Bool->Hp->Prop)(b:Bool)(s':Shared):Prop:=∃ H',Inv X pins σ H' s'/\Q b H'
def AP(X:Cx)(pins:List (Addr×Obj))(σ:St)(Q:List V->Hp->Prop)(us:List Value)(s':Shared):Prop:=∃ vs H',Inv X pins σ H' s'/\Vals vs us/\Q vs H'
def SP(X:Cx)(pins:List (Addr×Obj))(D:Ends)(f:Flow)(s':Shared):Prop:=
 match f with
 | .next=>∃ σ' H',Inv X pins σ' H' s'/\D.nx σ' H'
 | .brk=>∃ σ' H',Inv X pins σ' H' s'/\D.bk σ' H'
 | .cont=>∃ σ' H',Inv X pins σ' H' s'/\D.ct σ' H'
 | .ret u=>∃ v σ' H',Inv X pins σ' H' s'/\RelV v u/\D.rt v H'
def PE(X:Cx)(e:Expr)(t:TE):Prop:=
 ∀ (pins:List (Addr×Obj)) (s:Shared) (σ:St) (H:Hp) (Q:VK),Inv X pins σ H s->t σ H Q->wpAny (model X.prog X.w) X.A (eval e X.env) (EP X pins σ Q) X.xe s
def PT(X:Cx)(e:Expr)(t:TT):Prop:=
 ∀ (pins:List (Addr×Obj)) (s:Shared) (σ:St) (H:Hp) (Q:Bool->Hp->Prop),Inv X pins σ H s->t σ H Q->wpAny (model X.prog X.w) X.A (isTrue e X.env (eval e X.env)) (TP X pins σ Q) X.xe s
def PW(X:Cx)(e:Expr)(t:TT):Prop:=
 ∀ (whole:Sem Value) (pins:List (Addr×Obj)) (s:Shared) (σ:St) (H:Hp) (Q:Bool->Hp->Prop),Inv X pins σ H s->t σ H Q->wpAny (model X.prog X.w) X.A (isTrue e X.env whole) (TP X pins σ Q) X.xe s
theorem PW.pt{X:Cx}{e:Expr}{t:TT}(h:PW X e t):PT X e t:=h _
def PA(X:Cx)(es:List Expr)(t:TA):Prop:=
 ∀ (pos:Pos) (pins:List (Addr×Obj)) (s:Shared) (σ:St) (H:Hp) (Q:List V->Hp->Prop),Inv X pins σ H s->t σ H Q->wpAny (model X.prog X.w) X.A (spliced (backTo pos (starEach es X.env))) (AP X pins σ Q) X.xe s
def PS(X:Cx)(st:Stmt)(t:TS):Prop:=
 ∀ (pins:List (Addr×Obj)) (s:Shared) (σ:St) (H:Hp) (D:Ends),Inv X pins σ H s->t D σ H->wpAny (model X.prog X.w) X.A (exec st X.env) (SP X pins D) X.xe s
def PSs(X:Cx)(st:List Stmt)(t:TS):Prop:=
 ∀ (pins:List (Addr×Obj)) (s:Shared) (σ:St) (H:Hp) (D:Ends),Inv X pins σ H s->t D σ H->wpAny (model X.prog X.w) X.A (execs st X.env) (SP X pins D) X.xe s
theorem thn{α:Type}{t:Sem α}{Q Q':α->Shared->Prop}{M:Model}{A:Around}{E:Value->Shared->Prop}{s:Shared}(h:wpAny M A t Q E s)(hQ:∀ a s,Q a s->Q' a s):wpAny M A t Q' E s:=wpAny_mono h hQ fun _ _ x=>x
end L2
namespace L2
open PySem PySem.Spec PyProof.Rows
section
variable {X:Cx}
theorem bin{a b:Expr}{ta tb:TE}(ha:PE X a ta)(hb:PE X b tb){pins:List (Addr×Obj)}{s:Shared}{σ:St}{H:Hp}{R:V->V->Hp->Prop}(I:Inv X pins σ H s)(h:ta σ H fun x H1=>tb σ H1 fun y H2=>R x y H2)
  {α:Type} {Q:α->Shared->Prop} {f:Value->Value->Sem α}
  (hf:∀ v u s2 x y H2,Inv X pins σ H2 s2->RelV x v->RelV y u->R x y H2->wpAny (model X.prog X.w) X.A (f v u) Q X.xe s2) :
  wpAny (model X.prog X.w) X.A (eval a X.env) (fun v s₁=>wpAny (model X.prog X.w) X.A (eval b X.env) (fun u s₂=>wpAny (model X.prog X.w) X.A (f v u) Q X.xe s₂) X.xe s₁) X.xe s:=by
 refine thn (ha pins s σ H _ I h) fun v s1 ⟨x,H1,I1,r1,q1⟩=>?_
 refine thn (hb pins s1 σ H1 _ I1 q1) fun u s2 ⟨y,H2,I2,r2,q2⟩=>?_
 exact hf v u s2 x y H2 I2 r1 r2 q2
def tVar(i:Nat):TE:=fun σ H Q=>∃ v,σ[i]? = some (some v)/\Q v H
def tC(v:V):TE:=fun _ H Q=>Q v H
theorem pe_var {i:Nat} {x:Str} {pos:Pos} (hN:X.N[i]? = some x) (hv:Vis X.env.scope x) (hd:(x==("__debug__":Str))=false:=by decide) (hcd:(x==("__classdict__":Str))=false:=by decide):PE X (.Name x pos) (tVar i):=by
 intro pins s σ H Q I h
 obtain⟨v,e,h⟩:=h
 obtain⟨m,hn,hl⟩:=I.loc
 obtain⟨u,r,l⟩:=hl i x v hN e hv
 have fin:EP X pins σ Q u s:=⟨v,H,I,r,h⟩
 rcases l with ⟨hk,hm⟩ | ⟨hk,c,hc,hcell⟩
 ·exact wpAny_Name (wpAny_loadName_local I.ok.kind hk hn hm fin) hd
 ·rcases hk with hk | hk
  ·exact wpAny_Name (wpAny_loadName_cell I.ok.kind hk hc hcell fin) hd
  ·exact wpAny_Name (wpAny_loadName_free I.ok.kind hk hc hcell fin hcd) hd
theorem pe_int{i j pos}:PE X (.Constant (.int i) j pos) (tC (.int i)):=fun _ _ _ H _ I h=>wpAny_Constant_int ⟨.int i,H,I.tok _,⟨_,rfl⟩,h⟩
theorem pe_bl{b j pos}:PE X (.Constant (.bool b) j pos) (tC (.bl b)):=fun _ _ _ H _ I h=>Constant_bool ⟨.bl b,H,I,rfl,h⟩
theorem pe_non{j pos}:PE X (.Constant .none j pos) (tC .non):=fun _ _ _ H _ I h=>Constant_none ⟨.non,H,I,rfl,h⟩
theorem pe_str{x j pos}:PE X (.Constant (.str x) j pos) (tC (.str x)):=fun _ _ _ H _ I h=>Calls.Constant_str ⟨.str x,H,I.tok _,⟨_,rfl⟩,h⟩
def Gl(X:Cx)(x:Str):Prop:=X.env.kindOf x=some .globalImplicit
theorem ld_glob{E:Value->Shared->Prop}{pins:List (Addr×Obj)}{s:Shared}{σ:St}{H:Hp}{x:Str}{u:Value}{pos:Pos}{Q:Value->Shared->Prop}(I:Inv X pins σ H s)(hg:Gl X x)(hm:X.mg x=some u)(h:Q u s)
  (hd:(x==("__debug__":Str))=false:=by decide):wpAny (model X.prog X.w) X.A (eval (.Name x pos) X.env) Q E s:=
 Calls.Name_function_global I.ok.kind hg (Calls.loadGlobal_global (by rw [I.ok.glob];exact I.mod.glob.keeps I.bk) hm h) hd
theorem ld_blt{E:Value->Shared->Prop}{pins:List (Addr×Obj)}{s:Shared}{σ:St}{H:Hp}{x:Str}{u:Value}{pos:Pos}{Q:Value->Shared->Prop}(I:Inv X pins σ H s)(hg:Gl X x)(hm:X.mg x=none)(hv:bootBuiltins x=some u)(h:Q u s)
  (hn:x≠"__name__":=by decide) (hd:(x==("__debug__":Str))=false:=by decide):wpAny (model X.prog X.w) X.A (eval (.Name x pos) X.env) Q E s:=by
 obtain⟨mb,h1,h2⟩:=I.mod.blt
 exact Calls.Name_function_global I.ok.kind hg (Calls.loadGlobal_builtin (by rw [I.ok.glob];exact I.mod.glob.keeps I.bk) hm (by rw [I.ok.blt];exact h1.keeps I.bk) ((h2 x hn).trans hv) h) hd
theorem pe_glob {x:Str} {v:V} {u:Value} {pos:Pos} (hg:Gl X x) (hm:X.mg x=some u) (r:RelV v u) (hd:(x==("__debug__":Str))=false:=by decide):PE X (.Name x pos) (tC v):=
 fun _ _ _ H _ I h=>ld_glob I hg hm ⟨v,H,I,r,h⟩ hd
theorem pe_bltn {x:Str} {v:V} {u:Value} {pos:Pos} (hg:Gl X x) (hm:X.mg x=none) (hv:bootBuiltins x=some u) (r:RelV v u) (hn:x≠"__name__":=by decide) (hd:(x==("__debug__":Str))=false:=by decide):PE X (.Name x pos) (tC v):=
 fun _ _ _ H _ I h=>ld_blt I hg hm hv ⟨v,H,I,r,h⟩ hn hd
variable {a b:Expr} {ta tb:TE} {pos:Pos}
def PC(X:Cx)(op:CmpOp)(a b:Expr)(t:TE):Prop:=
 ∀ (pins:List (Addr×Obj)) (s:Shared) (σ:St) (H:Hp) (Q:VK),Inv X pins σ H s->t σ H Q →
  wpAny (model X.prog X.w) X.A (eval a X.env) (fun v s₁=>wpAny (model X.prog X.w) X.A (eval b X.env) (fun u s₂=>wpAny (model X.prog X.w) X.A (compareOp op v u) (EP X pins σ Q) X.xe s₂) X.xe s₁) X.xe s
theorem nobehind(b:Expr){op:CmpOp}(h:op≠.In)(h2:op≠.NotIn):behindInMarks op b=false:=by
 have e1:(op==CmpOp.In)=false:=by cases op<;>first | rfl | exact absurd rfl h
 have e2:(op==CmpOp.NotIn)=false:=by cases op<;>first | rfl | exact absurd rfl h2
 cases b<;>simp [behindInMarks,e1,e2]
def tB(t:TE):TT:=fun σ H Q=>t σ H fun x H1=>∃ c,x=.bl c/\Q c H1
theorem pt_cmp{op:CmpOp}{t:TE}(h:PC X op a b t)(h1:behindInMarks op b=false:=by first | exact nobehind _ (by decide) (by decide) | rfl):PT X (.Compare a [op] [b] pos) (tB t):=by
 intro pins s σ H Q I hw
 refine wpAny_isTrue_Compare1 (thn (h pins s σ H _ I hw) fun v s1 h1=>thn h1 fun u s2 h2=>thn h2 fun c s3 ⟨x,H1,I1,r1,q1⟩=>?_) h1
 obtain⟨d,rfl,q⟩:=q1
 cases r1
 exact wpAny_truthy_bool ⟨H1,I1,q⟩
theorem pt_val{e:Expr}{t:TE}(h:PE X e t)(he:∀ whole,isTrue e X.env whole=(do let v <-whole;standAt e.pos;holding [v] (truthy v)):=by intro _;rfl):PT X e (tB t):=by
 intro pins s σ H Q I hw
 refine isTrue_plain (thn (h pins s σ H _ I hw) fun v s1 ⟨x,H1,I1,r1,q1⟩=>?_) (he _)
 obtain⟨d,rfl,q⟩:=q1
 cases r1
 exact wpAny_truthy_bool ⟨H1,I1,q⟩
variable {tA tB':TT} {rest:List Expr}
def tAnd(t u:TT):TT:=fun σ H Q=>t σ H fun c H1=>if c=true then u σ H1 Q else Q false H1
def tOr(t u:TT):TT:=fun σ H Q=>t σ H fun c H1=>if c=true then Q true H1 else u σ H1 Q
def tNot(t:TT):TT:=fun σ H Q=>t σ H fun c H1=>Q (!c) H1
theorem pw_and1(ha:PT X a tA):PW X (.BoolOp .And [a] pos) tA:=by
 intro wh pins s σ H Q I h
 refine isTrue_and (thn (ha pins s σ H Q I h) fun c s1 e=>?_)
 cases c with
 | true=>exact isTrue_and_nil e
 | false=>exact e
theorem pw_or1(ha:PT X a tA):PW X (.BoolOp .Or [a] pos) tA:=by
 intro wh pins s σ H Q I h
 refine isTrue_or (thn (ha pins s σ H Q I h) fun c s1 e=>?_)
 cases c with
 | false=>exact isTrue_or_nil e
 | true=>exact e
theorem pw_and(ha:PT X a tA)(hb:PW X (.BoolOp .And (b::rest) pos) tB'):PW X (.BoolOp .And (a::b::rest) pos) (tAnd tA tB'):=by
 intro wh pins s σ H Q I h
 refine isTrue_and (thn (ha pins s σ H _ I h) fun c s1 ⟨H1,I1,q1⟩=>?_)
 cases c with
 | true=>exact hb wh pins s1 σ H1 Q I1 q1
 | false=>exact⟨H1,I1,q1⟩
theorem pw_or(ha:PT X a tA)(hb:PW X (.BoolOp .Or (b::rest) pos) tB'):PW X (.BoolOp .Or (a::b::rest) pos) (tOr tA tB'):=by
 intro wh pins s σ H Q I h
 refine isTrue_or (thn (ha pins s σ H _ I h) fun c s1 ⟨H1,I1,q1⟩=>?_)
 cases c with
 | true=>exact⟨H1,I1,q1⟩
 | false=>exact hb wh pins s1 σ H1 Q I1 q1
theorem pt_not(ha:PT X a tA):PT X (.UnaryOp .Not a pos) (tNot tA):=by
 intro pins s σ H Q I h
 exact isTrue_not (ha pins s σ H (fun c H1=>Q (!c) H1) I h)
def tAndV(ta tb:TE):TE:=fun σ H Q=>ta σ H fun x H1=>∃ c,x=.bl c/\if c=true then tb σ H1 Q else Q (.bl false) H1
def tOrV(ta tb:TE):TE:=fun σ H Q=>ta σ H fun x H1=>∃ c,x=.bl c/\if c=true then Q (.bl true) H1 else tb σ H1 Q
def tNotV(ta:TE):TE:=fun σ H Q=>ta σ H fun x H1=>∃ c,x=.bl c/\Q (.bl (!c)) H1
theorem pe_one{op}{t:TE}(h:PE X a t):PE X (.BoolOp op [a] pos) t:=fun pins s σ H Q I hw=>BoolOp_one (h pins s σ H Q I hw)
theorem pe_and(ha:PE X a ta)(hb:PE X (.BoolOp .And (b::rest) pos) tb):PE X (.BoolOp .And (a::b::rest) pos) (tAndV ta tb):=by
 intro pins s σ H Q I h
 refine BoolOp_and (thn (ha pins s σ H _ I h) fun v s1 ⟨x,H1,I1,r1,q1⟩=>?_)
 obtain⟨c,rfl,q1⟩:=q1
 cases r1
 refine wpAny_truthy_bool ?_
 cases c with
 | true=>exact hb pins s1 σ H1 Q I1 q1
 | false=>exact⟨.bl false,H1,I1,rfl,q1⟩
theorem pe_not(ha:PE X a ta):PE X (.UnaryOp .Not a pos) (tNotV ta):=by
 intro pins s σ H Q I h
 refine UnaryOp_ (thn (ha pins s σ H _ I h) fun v s1 ⟨x,H1,I1,r1,q1⟩=>?_)
 obtain⟨c,rfl,q1⟩:=q1
 cases r1
 exact not_of (wpAny_truthy_bool ⟨.bl (!c),H1,I1,rfl,q1⟩)
def tIf(t:TT)(ta tb:TE):TE:=fun σ H Q=>t σ H fun c H1=>if c=true then ta σ H1 Q else tb σ H1 Q
theorem pe_ifExp{c:Expr}(hc:PT X c tA)(ha:PE X a ta)(hb:PE X b tb):PE X (.IfExp c a b pos) (tIf tA ta tb):=by
 intro pins s σ H Q I h
 refine wpAny_IfExp (thn (hc pins s σ H _ I h) fun d s1 ⟨H1,I1,q1⟩=>?_)
 cases d with
 | true=>exact ha pins s1 σ H1 Q I1 q1
 | false=>exact hb pins s1 σ H1 Q I1 q1
end
end L2
namespace L2
open PySem PySem.Spec PyProof.Rows
def SqL(K:PySem.W.Frag)(H:Hp)(a:Addr)(xs:List V):Prop:=
 Rd H a (.lst xs) ∨
  ∃ (o:Obj) (its:Array Value) (n:Nat),K.lookup a=some o/\o.cls=.type "list"/\o.dict=none/\o.data=.seq its n/\its.size<=sizeLine/\Vals xs its.toList
def SqT(K:PySem.W.Frag)(H:Hp)(a:Addr)(xs:List V):Prop:=
 Rd H a (.tup xs) ∨
  ∃ (o:Obj) (its:Array Value) (n:Nat),K.lookup a=some o/\o.cls=.type "tuple"/\o.data=.seq its n/\its.size<=sizeLine/\Vals xs its.toList
def absV:Value->Option V
 | .none=>some .non
 | .bool b=>some (.bl b)
 | .int i _=>some (.int i)
 | .str x _=>some (.str x)
 | .bytes b _=>some (.byt b)
 | .float b _=>some (.flt b)
 | .ref a=>some (.ref a)
 | .type n=>some (.ty n)
 | _=>none
theorem RelV.abs{x:V}{u:Value}(r:RelV x u):absV u=some x:=by
 cases x with
 | non=>cases r;rfl
 | bl _=>cases r;rfl
 | int _=>obtain⟨t,rfl⟩:=r;rfl
 | str _=>obtain⟨t,rfl⟩:=r;rfl
 | byt _=>obtain⟨t,rfl⟩:=r;rfl
 | flt _=>obtain⟨t,rfl⟩:=r;rfl
 | ref _=>cases r;rfl
 | ty _=>cases r;rfl
theorem RelV.inj{x y:V}{u:Value}(r:RelV x u)(q:RelV y u):x=y:=Option.some.inj (r.abs.symm.trans q.abs)
theorem Vals.inj:∀ {xs ys:List V} {us:List Value},Vals xs us->Vals ys us->xs=ys
 | _,_,_,.nil,.nil=>rfl
 | _,_,_,.cons r t,.cons r' t'=>by rw [r.inj r',Vals.inj t t']
section
variable {X:Cx} {pins:List (Addr×Obj)} {σ:St} {H:Hp} {s:Shared} {a:Addr} {xs ys:List V}
theorem SqL.of{K:PySem.W.Frag}(h:H a=some (.lst xs)):SqL K H a xs:=.inl (.inl h)
theorem SqT.of{K:PySem.W.Frag}(h:H a=some (.tup xs)):SqT K H a xs:=.inl (.inl h)
theorem Inv.list(I:Inv X pins σ H s)(h:SqL X.K H a xs):∃ its:List Value,Vals xs its/\PlainL s.heap a its.toArray/\xs.length<=sizeLine:=by
 rcases h with h | ⟨o,its,n,hk,hc,hd,hs,hz,r⟩
 ·obtain⟨z,its,n,r,e⟩:=h.ok I.hok
  exact⟨its,r,⟨_,n,e,rfl,rfl,rfl⟩,z⟩
 ·refine⟨its.toList,r,⟨o,n,I.kIn a o hk,hc,hd,by simpa using hs⟩,?_⟩
  have e:=r.length
  simp only [Array.length_toList] at e
  omega
theorem Inv.tuple(I:Inv X pins σ H s)(h:SqT X.K H a xs):∃ its:List Value,Vals xs its/\IsTup s.heap a its.toArray/\xs.length<=sizeLine:=by
 rcases h with h | ⟨o,its,n,hk,hc,hs,hz,r⟩
 ·obtain⟨z,its,r,p⟩:=h.ok I.hok
  exact⟨its,r,p,z⟩
 ·refine⟨its.toList,r,⟨o,I.kIn a o hk,hc,n,by simpa using hs⟩,?_⟩
  have e:=r.length
  simp only [Array.length_toList] at e
  omega
theorem Inv.list_inj(I:Inv X pins σ H s)(h:SqL X.K H a xs)(h':SqL X.K H a ys):xs=ys:=by
 obtain⟨its,r,⟨o,n,e,_,_,d⟩,_⟩:=I.list h
 obtain⟨its',r',⟨o',n',e',_,_,d'⟩,_⟩:=I.list h'
 rw [e] at e';cases e'
 rw [d] at d'
 injection d' with d1 _
 have:its=its':=by simpa using congrArg Array.toList d1
 subst this
 exact r.inj r'
end
abbrev Cx.wish (X:Cx) (E:Value->Shared->Prop):Cx:={ X with xe:=E }
abbrev Cx.nox (X:Cx):Cx:=X.wish fun _ _=>False
theorem Cx.Ok.wish{X:Cx}(ok:X.Ok)(E:Value->Shared->Prop):(X.wish E).Ok:=
 ⟨ok.mod,ok.kind,ok.glob,ok.blt,ok.above,ok.inj,ok.has,ok.cab,ok.hd,ok.frames,ok.stk,ok.exf,ok.bs,ok.bsz,ok.noex,ok.exfs,ok.funs,ok.frf⟩
theorem Cx.Ok.unwish{X:Cx}{E:Value->Shared->Prop}(ok:(X.wish E).Ok):X.Ok:=
 ⟨ok.mod,ok.kind,ok.glob,ok.blt,ok.above,ok.inj,ok.has,ok.cab,ok.hd,ok.frames,ok.stk,ok.exf,ok.bs,ok.bsz,ok.noex,ok.exfs,ok.funs,ok.frf⟩
section
variable {X:Cx} {pins:List (Addr×Obj)} {σ:St} {H:Hp} {s:Shared} {E:Value->Shared->Prop}
theorem Inv.wish(I:Inv X pins σ H s)(E:Value->Shared->Prop):Inv (X.wish E) pins σ H s:=⟨I.ok.wish E,I.os,I.bare,I.base,I.loc,I.cell,I.free,I.freeC,I.pin,I.hok,I.len⟩
theorem Inv.unwish(I:Inv (X.wish E) pins σ H s):Inv X pins σ H s:=⟨I.ok.unwish,I.os,I.bare,I.base,I.loc,I.cell,I.free,I.freeC,I.pin,I.hok,I.len⟩
theorem SP.unwish{D:Ends}{f:Flow}{s':Shared}(h:SP (X.wish E) pins D f s'):SP X pins D f s':=by
 cases f with
 | next=>obtain⟨σ',H',I,q⟩:=h;exact⟨σ',H',I.unwish,q⟩
 | brk=>obtain⟨σ',H',I,q⟩:=h;exact⟨σ',H',I.unwish,q⟩
 | cont=>obtain⟨σ',H',I,q⟩:=h;exact⟨σ',H',I.unwish,q⟩
 | ret u=>obtain⟨v,σ',H',I,r,q⟩:=h;exact⟨v,σ',H',I.unwish,r,q⟩
theorem PT.nox{e:Expr}{t:TT}(h:PT X.nox e t):PT X e t:=fun pins s σ H Q I hw=>
 wpAny_mono (h pins s σ H Q (I.wish _) hw) (fun _ _ ⟨H',I',q⟩=>⟨H',I'.unwish,q⟩) fun _ _ z=>False.elim z
theorem PSs.nox{st:List Stmt}{t:TS}(h:PSs X.nox st t):PSs X st t:=fun pins s σ H D I hw=>
 wpAny_mono (h pins s σ H D (I.wish _) hw) (fun _ _ q=>q.unwish) fun _ _ z=>False.elim z
end
section
variable {X:Cx} {st:Stmt} {rest:List Stmt} {t u:TS} {e:Expr} {te:TE} {pos:Pos}
def tNext:TS:=fun D σ H=>D.nx σ H
def tSeq(t u:TS):TS:=fun D σ H=>t { D with nx:=u D } σ H
theorem pss_nil:PSs X [] tNext:=fun _ _ σ H _ I h=>wpAny_execs_nil ⟨σ,H,I,h⟩
theorem pss_cons(h1:PS X st t)(h2:PSs X rest u):PSs X (st::rest) (tSeq t u):=by
 intro pins s σ H D I h
 refine wpAny_execs_cons (thn (h1 pins s σ H { D with nx:=u D } I h) fun f s1 q=>?_)
 cases f with
 | next=>
  obtain⟨σ',H',I',q⟩:=q
  exact h2 pins s1 σ' H' D I' q
 | ret v=>exact q
 | brk=>exact q
 | cont=>exact q
theorem pss_one(h1:PS X st t):PSs X [st] t:=by
 intro pins s σ H D I h
 refine wpAny_execs_cons (thn (h1 pins s σ H D I h) fun f s1 q=>?_)
 cases f with
 | next=>exact wpAny_execs_nil q
 | ret v=>exact q
 | brk=>exact q
 | cont=>exact q
def tBreak:TS:=fun D σ H=>D.bk σ H
def tCont:TS:=fun D σ H=>D.ct σ H
theorem Inv.quiet{pins:List (Addr×Obj)}{σ:St}{H:Hp}{s:Shared}(I:Inv X pins σ H s):interactive X.env=false:=by simp [interactive,I.ok.kind]
def tDrop(te:TE):TS:=fun D σ H=>te σ H fun _ H1=>D.nx σ H1
theorem ps_expr(he:PE X e te)(hs:swapsWith e none pos.line X.env=pure false:=by rfl):PS X (.Expr e pos) (tDrop te):=by
 intro pins s σ H D I h
 exact wpAny_Expr_any (thn (he pins s σ H _ I h) fun v s1 ⟨x,H1,I1,r1,q1⟩=>⟨σ,H1,I1,q1⟩) I.quiet hs
def tRet(te:TE):TS:=fun D σ H=>te σ H D.rt
theorem ps_ret(he:PE X e te):PS X (.Return (some e) pos) (tRet te):=by
 intro pins s σ H D I h
 exact wpAny_Return_some (thn (he pins s σ H _ I h) fun v s1 ⟨x,H1,I1,r1,q1⟩=>⟨x,σ,H1,I1,r1,q1⟩)
def tRetN:TS:=fun D _ H=>D.rt .non H
def tIfS(c:TT)(t u:TS):TS:=fun D σ H=>c σ H fun b H1=>if b=true then t D σ H1 else u D σ H1
theorem ps_if{c:Expr}{a b:List Stmt}{tc:TT}(hc:PT X c tc)(ha:PSs X a t)(hb:PSs X b u):PS X (.If c a b pos) (tIfS tc t u):=by
 intro pins s σ H D I h
 refine wpAny_If (thn (hc pins s σ H _ I h) fun d s1 ⟨H1,I1,q1⟩=>?_)
 cases d with
 | true=>exact ha pins s1 σ H1 D I1 q1
 | false=>exact hb pins s1 σ H1 D I1 q1
end
abbrev TG:=V->St->Hp->(St->Hp->Prop)->Prop
abbrev TGs:=List V->St->Hp->(St->Hp->Prop)->Prop
def PG(X:Cx)(target:Expr)(t:TG):Prop:=
 ∀ (pins:List (Addr×Obj)) (s:Shared) (σ:St) (H:Hp) (v:V) (u:Value) (Q:St->Hp->Prop),Inv X pins σ H s->RelV v u->t v σ H Q →
  wpAny (model X.prog X.w) X.A (assign target X.env u) (fun _ s'=>∃ σ' H',Inv X pins σ' H' s'/\Q σ' H') X.xe s
def PGs(X:Cx)(ts:List Expr)(t:TGs):Prop:=
 ∀ (pins:List (Addr×Obj)) (s:Shared) (σ:St) (H:Hp) (vs:List V) (us:List Value) (Q:St->Hp->Prop),Inv X pins σ H s->Vals vs us->t vs σ H Q →
  wpAny (model X.prog X.w) X.A (assignInOrder ((assignEach ts X.env).map (·.2)) us) (fun _ s'=>∃ σ' H',Inv X pins σ' H' s'/\Q σ' H') X.xe s
abbrev TSet:=V->V->V->Hp->(Hp->Prop)->Prop
def PSet(X:Cx)(t:TSet):Prop:=
 ∀ (pins:List (Addr×Obj)) (s:Shared) (σ:St) (H:Hp) (o i v:V) (ov iv u:Value) (Q:Hp->Prop),Inv X pins σ H s->RelV o ov->RelV i iv->RelV v u->t o i v H Q →
  wpAny (model X.prog X.w) X.A (setItem ov iv u) (fun _ s'=>∃ H',Inv X pins σ H' s'/\Q H') X.xe s
abbrev TIp:=V->V->Hp->VK->Prop
def PIp(X:Cx)(op:Operator)(t:TIp):Prop:=
 ∀ (pins:List (Addr×Obj)) (s:Shared) (σ:St) (H:Hp) (x y:V) (v u:Value) (Q:VK),Inv X pins σ H s->RelV x v->RelV y u->t x y H Q →
  wpAny (model X.prog X.w) X.A (inplaceOp op v u) (EP X pins σ Q) X.xe s
section
variable {X:Cx} {pos:Pos}
def gName(i:Nat):TG:=fun v σ H Q=>Q (σ.set i (some v)) H
theorem pg_name{i:Nat}{x:Str}(hN:X.N.Nodup)(hi:X.N[i]? = some x)(hx:Loc X.env.scope x)(hf:X.fn x=true\/X.env.scope.names.lookup x=some .local:=by first | exact .inl rfl | exact .inr rfl | assumption):PG X (.Name x pos) (gName i):=by
 intro pins s σ H v u Q I r h
 exact wpAny_assign_Name (store_ok I hN hi hx r (fun s' I'=>⟨_,H,I',h⟩) hf)
def gNil:TGs:=fun vs σ H Q=>vs=[]/\Q σ H
def gCons(t:TG)(u:TGs):TGs:=fun vs σ H Q=>∃ v r,vs=v::r/\t v σ H fun σ' H'=>u r σ' H' Q
theorem pgs_nil:PGs X [] gNil:=by
 intro pins s σ H vs us Q I r h
 obtain⟨e,h⟩:=h
 subst e
 cases r
 exact assignInOrder_nil ⟨σ,H,I,h⟩
theorem pgs_cons{e:Expr}{es:List Expr}{t:TG}{u:TGs}(h1:PG X e t)(h2:PGs X es u)
  (hs:(assignEach (e::es) X.env).map (·.2)=assign e X.env::(assignEach es X.env).map (·.2):=by rfl):PGs X (e::es) (gCons t u):=by
 intro pins s σ H vs us Q I r h
 obtain⟨v,vr,e1,h⟩:=h
 subst e1
 cases r with
 | cons r rr=>
  rw [hs]
  refine assignInOrder_cons (thn (h1 pins s σ H _ _ _ I r h) fun _ s1 ⟨σ1,H1,I1,q1⟩=>?_)
  exact h2 pins s1 σ1 H1 _ _ Q I1 rr q1
def gTup(K:PySem.W.Frag)(n:Nat)(t:TGs):TG:=fun v σ H Q=>∃ a xs,v=.ref a/\SqT K H a xs/\xs.length=n/\t xs σ H Q
theorem pg_tup{es:List Expr}{k:Nat}{t:TGs}{n:Nat}(hc:X.calm=true)(h:PGs X es t)
  (hn:(assignEach es X.env).length=n:=by rfl) (hst:(assignEach es X.env).findIdx? (·.1)=none:=by rfl):PG X (.Tuple es k pos) (gTup X.K n t):=by
 intro pins s σ H v u Q I r hw
 obtain⟨a,xs,e1,hq,hl,hw⟩:=hw
 subst e1
 cases r
 obtain⟨its,rv,ht,hz⟩:=I.tuple hq
 refine assign_Tuple_tuple (I.ok.hd hc) ht (by simp [hn,<-hl,rv.length]) hst fun h' hx=>?_
 have I1:Inv X pins σ H { s with heap:=h' }:=I.kept (t':=s.toks) fun b o e=>hx b o (Nat.ne_of_lt (Heap.lt_size e)) e
 exact h pins _ σ H xs _ Q I1 (by simpa using rv) hw
def gSub(to ti:TE)(t:TSet):TG:=fun v σ H Q=>to σ H fun o H1=>ti σ H1 fun i H2=>t o i v H2 fun H3=>Q σ H3
theorem pg_sub{o i:Expr}{to ti:TE}{t:TSet}(ho:PE X o to)(hi:PE X i ti)(hs:PSet X t)
  (ha:∀ v,assign (.Subscript o i pos) X.env v=(do
   let ov <-holding [v] (eval o X.env)
   let iv <-holding [v,ov] (eval i X.env)
   standAt pos
   holding [v,ov,iv] (setItem ov iv v)
   release [v,ov,iv] []):=by intro _;rfl):PG X (.Subscript o i pos) (gSub to ti t):=by
 intro pins s σ H v u Q I r h
 rw [ha]
 refine wpAny_bind (wpAny_holding (thn (ho pins s σ H _ I h) fun ov s1 ⟨x,H1,I1,r1,q1⟩=>?_))
 refine wpAny_bind (wpAny_holding (thn (hi pins s1 σ H1 _ I1 q1) fun iv s2 ⟨y,H2,I2,r2,q2⟩=>?_))
 refine wpAny_bind (wpAny_standAt (wpAny_bind (wpAny_holding (thn (hs pins s2 σ H2 x y v ov iv u _ I2 r1 r2 r q2) fun _ s3 ⟨H3,I3,q3⟩=>?_))))
 exact wpAny_release ⟨σ,H3,I3,q3⟩
def tAsg(te:TE)(g:TG):TS:=fun D σ H=>te σ H fun x H1=>g x σ H1 D.nx
theorem ps_asg{tg e:Expr}{te:TE}{g:TG}(he:PE X e te)(hg:PG X tg g)(hs:swapsWithSole [tg] e pos.line X.env=pure false:=by rfl)(hw:swappedStores [tg] e X.env=pure none:=by rfl)
  (h1:(assignEach [tg] X.env).map (·.2)=[assign tg X.env]:=by rfl):PS X (.Assign [tg] e pos) (tAsg te g):=by
 intro pins s σ H D I h
 refine wpAny_Assign_stores (thn (he pins s σ H _ I h) fun v s1 ⟨x,H1,I1,r1,q1⟩=>?_) hs hw
 rw [h1]
 exact thn (hg pins s1 σ H1 x v _ I1 r1 q1) fun _ s2 q=>q
theorem ps_set{i:Nat}{x:Str}{e:Expr}{te:TE}{pos':Pos}(hN:X.N.Nodup)(hi:X.N[i]? = some x)(hx:Loc X.env.scope x)(he:PE X e te)(hs:swapsWith e (some (.Name x pos')) pos.line X.env=pure false:=by rfl)(hf:X.fn x=true\/X.env.scope.names.lookup x=some .local:=by first | exact .inl rfl | exact .inr rfl | assumption):
  PS X (.Assign [.Name x pos'] e pos) (tAsg te (gName i)):=by
 intro pins s σ H D I h
 refine wpAny_Assign_Name (thn (he pins s σ H _ I h) fun v s1 ⟨y,H1,I1,r1,q1⟩=>?_) hs
 exact store_ok I1 hN hi hx r1 (fun s2 I2=>⟨_,H1,I2,q1⟩) hf
def tAug(i:Nat)(te:TE)(ti:TIp):TS:=fun D σ H=>∃ x,σ[i]? = some (some x)/\te σ H fun y H1=>ti x y H1 fun z H2=>D.nx (σ.set i (some z)) H2
theorem ps_aug{i:Nat}{x:Str}{e:Expr}{te:TE}{op:Operator}{ti:TIp}{pos':Pos}(hN:X.N.Nodup)(hi:X.N[i]? = some x)(hx:Loc X.env.scope x)(he:PE X e te)(ho:PIp X op ti)(hf:X.fn x=true\/X.env.scope.names.lookup x=some .local:=by first | exact .inl rfl | exact .inr rfl | assumption):
  PS X (.AugAssign (.Name x pos') op e pos) (tAug i te ti):=by
 intro pins s σ H D I h
 obtain⟨v,e1,h⟩:=h
 obtain⟨m,hn,hl⟩:=I.loc
 have vis:Vis X.env.scope x:=by rcases hx with k | k;exact .inl k;exact .inr (.inl k)
 obtain⟨u,r,l⟩:=hl i x v hi e1 vis
 refine wpAny_AugAssign_Name ?_
 have go:wpAny (model X.prog X.w) X.A (eval e X.env) (fun w s₂=>wpAny (model X.prog X.w) X.A (inplaceOp op u w) (fun r s₃=>wpAny (model X.prog X.w) X.A (storeName X.env x r) (fun _=>SP X pins D .next) X.xe s₃) X.xe s₂) X.xe s:=by
  refine thn (he pins s σ H _ I h) fun w s1 ⟨y,H1,I1,r1,q1⟩=>?_
  refine thn (ho pins s1 σ H1 v y u w _ I1 r r1 q1) fun z s2 ⟨zv,H2,I2,r2,q2⟩=>?_
  exact store_ok I2 hN hi hx r2 (fun s3 I3=>⟨_,H2,I3,q2⟩) hf
 rcases l with ⟨hk,hm⟩ | ⟨hk,c,hc,hcell⟩
 ·exact wpAny_loadName_local I.ok.kind hk hn hm go
 ·rcases hk with hk | hk
  ·exact wpAny_loadName_cell I.ok.kind hk hc hcell go
  ·rcases hx with k | k
   ·have:X.env.scope.names.lookup x=some .free:=hk
    rw [k] at this;cases this
   ·have:X.env.scope.names.lookup x=some .free:=hk
    rw [k] at this;cases this
def ipI(f:Int->Int->Int):TIp:=fun x y H Q=>∃ i j,x=.int i/\y=.int j/\Q (.int (f i j)) H
theorem ip_add:PIp X .Add (ipI fun i j=>i+j):=by
 intro pins s σ H x y v u Q I r1 r2 h
 obtain⟨i,j,e1,e2,q⟩:=h
 subst e1;subst e2
 obtain⟨t,rfl⟩:=r1
 obtain⟨t',rfl⟩:=r2
 exact iadd_int ⟨.int _,H,I.tok _,⟨_,rfl⟩,q⟩
theorem ip_sub:PIp X .Sub (ipI fun i j=>i - j):=by
 intro pins s σ H x y v u Q I r1 r2 h
 obtain⟨i,j,e1,e2,q⟩:=h
 subst e1;subst e2
 obtain⟨t,rfl⟩:=r1
 obtain⟨t',rfl⟩:=r2
 exact isub_int ⟨.int _,H,I.tok _,⟨_,rfl⟩,q⟩
end
section
variable {X:Cx} {pos:Pos}
def tWhile(c:TT)(tb:TS):TS:=fun D σ H=>∃ W:Nat->St->Hp->Prop,(∃ m,W m σ H)/\∀ m σ H,W m σ H →
 c σ H fun b H1=>if b=true then ∃ N:St->Hp->Prop,(∀ σ' H',N σ' H'->∃ m',m'<m/\W m' σ' H')/\tb { D with nx:=N,ct:=N,bk:=D.nx } σ H1 else D.nx σ H1
theorem ps_while{c:Expr}{body:List Stmt}{tc:TT}{tb:TS}(hp:PassesOwn (model X.prog X.w) X.A X.env X.xe)(hc:PT X c tc)(hb:PSs X body tb):PS X (.While c body [] pos) (tWhile tc tb):=by
 intro pins s σ H D I h
 obtain⟨W,⟨m0,w0⟩,turn⟩:=h
 refine wpAny_While (codeAny_whileLoop (fun n s'=>∃ σ' H',Inv X pins σ' H' s'/\W n σ' H') ?_ m0 ⟨σ,H,I,w0⟩)
 rintro n s1 ⟨σ1,H1,I1,w1⟩
 refine wpAny_passesOwn hp (thn (hc pins s1 σ1 H1 _ I1 (turn n σ1 H1 w1)) fun b s2 ⟨H2,I2,q2⟩=>?_)
 cases b with
 | true=>
  obtain⟨N,hN,q2⟩:=q2
  rw [if_pos rfl]
  refine wpAny_passesOwn hp (thn (hb pins s2 σ1 H2 _ I2 q2) fun f s3 q3=>?_)
  cases f with
  | next=>
   obtain⟨σ3,H3,I3,n3⟩:=q3
   obtain⟨m',hm,w3⟩:=hN σ3 H3 n3
   exact⟨m',hm,σ3,H3,I3,w3⟩
  | cont=>
   obtain⟨σ3,H3,I3,n3⟩:=q3
   obtain⟨m',hm,w3⟩:=hN σ3 H3 n3
   exact⟨m',hm,σ3,H3,I3,w3⟩
  | brk=>exact q3
  | ret v=>exact q3
 | false=>
  rw [if_neg Bool.false_ne_true]
  exact wpAny_execs_nil ⟨σ1,H2,I2,q2⟩
end
structure It where
 go:Nat->Hp->Prop
 yld:Nat->Hp->V->Hp->Prop
 stop:Nat->Hp->Prop
def FpOk(X:Cx)(pins:List (Addr×Obj))(H:Hp)(b:Addr):Prop:=
 H b=none/\b≠X.env.locals/\b∉X.fs/\(b∈X.ex\/X.s₀.heap.objs.size<=b)/\(∀ x c,X.env.cells.lookup x=some c->c≠b)/\∀ p∈X.pn++pins,p.1≠b
theorem Inv.fpOk{X:Cx}{pins:List (Addr×Obj)}{σ:St}{H H':Hp}{s:Shared}{b:Addr}(I:Inv X pins σ H s)(hb:s.heap.objs.size<=b)(hn:H' b=none):FpOk X pins H' b:=by
 refine⟨hn,Nat.ne_of_gt (Nat.lt_of_lt_of_le I.lt hb),I.nofs hb,.inr (Nat.le_trans I.sz hb),fun x c e z=>?_,fun p hp z=>?_⟩
 ·obtain⟨v,q⟩:=I.cell x c e
  exact absurd (Nat.lt_of_lt_of_le q.lt (by rw [z];exact hb)) (Nat.lt_irrefl _)
 ·exact absurd (Nat.lt_of_lt_of_le (Heap.lt_size (I.pin p hp).1) (by rw [z];exact hb)) (Nat.lt_irrefl _)
structure Turn (P : Program) (w : World) (K : PySem.W.Frag) (tg : Expr) (J : It) (fp : List Addr) (it : Addr) (tn : Nat → Heap → Prop) : Prop where
  mem : it ∈ fp
  obj : ∀ i h, tn i h → ∀ b ∈ fp, ∃ o, h.get? b = some o ∧ ∀ v, o.data ≠ .cell v
  keep : ∀ i h h', tn i h → (∀ b ∈ fp, ∀ o, h.get? b = some o → h'.get? b = some o) → tn i h'
  item : ∀ (X : Cx), X.prog = P → X.w = w → X.K = K → X.calm = true → ∀ (i : Nat) (pins : List (Addr × Obj)) (s : Shared) (σ : St) (H : Hp) (E : Value → Shared → Prop), Inv X pins σ H s → (∀ b ∈ fp, FpOk X pins H b) → tn i s.heap → J.go i H →
    wpAny (model P w) X.A (pyNext (.ref it)) (fun r s1 => ∃ u, r = some u ∧
      wpAny (model P w) X.A (letOwnedTupleGo tg (.ref it) u) (fun _ s2 => ∃ x H', Inv X pins σ H' s2 ∧ RelV x u ∧ J.yld i H x H' ∧ tn (i + 1) s2.heap ∧ ∀ b ∈ fp, H' b = none) E s1) E s
  done : ∀ (X : Cx), X.prog = P → X.w = w → X.K = K → X.calm = true → ∀ (i : Nat) (pins : List (Addr × Obj)) (s : Shared) (σ : St) (H : Hp) (E : Value → Shared → Prop), Inv X pins σ H s → (∀ b ∈ fp, FpOk X pins H b) → tn i s.heap → J.stop i H →
    wpAny (model P w) X.A (pyNext (.ref it)) (fun r s1 => r = none ∧ Inv X pins σ H s1) E s
  self : ∀ (A : Around) (i : Nat) (s : Shared) (Q : Value → Shared → Prop) (E : Value → Shared → Prop), tn i s.heap → Q (.ref it) s → wpAny (model P w) A (pyIter (.ref it)) Q E s
abbrev TI:=St->Hp->(It->Hp->Prop)->Prop
def PIE(X:Cx)(pins:List (Addr×Obj))(σ:St)(tg:Expr)(R:It->Hp->Prop)(itv:Value)(s2:Shared):Prop:=
 ∃ (it:Addr) (fp:List Addr) (tn:Nat->Heap->Prop) (J:It) (H':Hp),itv=.ref it/\Inv X pins σ H' s2/\Turn X.prog X.w X.K tg J fp it tn/\tn 0 s2.heap/\(∀ b∈fp,FpOk X pins H' b)/\R J H'
def PI(X:Cx)(tg iter:Expr)(wi:TI):Prop:=
 ∀ (pins:List (Addr×Obj)) (s:Shared) (σ:St) (H:Hp) (R:It->Hp->Prop),Inv X pins σ H s->wi σ H R →
  wpAny (model X.prog X.w) X.A (eval iter X.env) (fun v s1=>wpAny (model X.prog X.w) X.A (pyIter v) (PIE X pins σ tg R) X.xe s1) X.xe s
theorem go_of {M : Model} {A : Around} {E : Value → Shared → Prop} {s : Shared} {tg : Expr} {it : Addr} {u : Value} {o : Obj} {n : String} {vs : Array Value} {Q : Unit → Shared → Prop} (ho : s.heap.get? it = some o) (hc : o.cls = .type n) (hd : o.data = .fields vs)
    (hn : ["enumerate", "zip", "dict_itemiterator", "dict_reverseitemiterator", "odict_iterator", "itertools.zip_longest", "itertools.pairwise"].contains n = false) (hQ : Q () s) : wpAny M A (letOwnedTupleGo tg (.ref it) u) Q E s := by
  unfold letOwnedTupleGo
  cases tg <;> first
    | exact wpAny_pure hQ
    | (cases u <;> first
        | exact wpAny_pure hQ
        | (refine wpAny_bind (wpAny_load ho ?_)
           rw [hc, hd]
           show wpAny M A (if (["enumerate", "zip", "dict_itemiterator", "dict_reverseitemiterator", "odict_iterator", "itertools.zip_longest", "itertools.pairwise"].contains n && vs[0]? == some (rawInt _)) = true then _ else _) Q E s
           rw [if_neg (by intro h; rw [hn, Bool.false_and] at h; cases h)]
           exact wpAny_pure hQ))
def Itl(K:PySem.W.Frag)(a:Addr):It:=
 ⟨fun i H=>∃ xs x,SqL K H a xs/\xs[i]? = some x,fun i H x H'=>H'=H/\∀ xs,SqL K H a xs->xs[i]? = some x,fun i H=>∃ xs,SqL K H a xs/\xs.length<=i⟩
def Itt(K:PySem.W.Frag)(a:Addr):It:=
 ⟨fun i H=>∃ xs x,SqT K H a xs/\xs[i]? = some x,fun i H x H'=>H'=H/\∀ xs,SqT K H a xs->xs[i]? = some x,fun i H=>∃ xs,SqT K H a xs/\xs.length<=i⟩
def Itr(lo:Int)(n:Nat):It:=⟨fun i _=>i<n,fun i H x H'=>H'=H/\x=.int (lo+i),fun i _=>n<=i⟩
theorem turn_list {P : Program} {w : World} {K : PySem.W.Frag} {tg : Expr} (a it : Addr) : Turn P w K tg (Itl K a) [it] it (fun i h => h.IsListIter it a i) where
  mem := by simp
  obj := fun i h st b hb => by
    have e : b = it := by simpa using hb
    subst e
    obtain ⟨o, e, c, d⟩ := st
    exact ⟨o, e, fun v z => by rw [d] at z; cases z⟩
  keep := fun i h h' st k => st.at fun o e => k it (by simp) o e
  item := by
    intro X hP hw hK hc i pins s σ H E I hf st hg
    subst hP hw hK
    obtain ⟨xs, x, hq, hx⟩ := hg
    obtain ⟨its, rv, p, hz⟩ := I.list hq
    obtain ⟨u, hu, ru⟩ := rv.get hx
    obtain ⟨f0, f1, f2, f3, f4, f5⟩ := hf it (by simp)
    refine wpAny_pyNext_list_item st p.isList (x := u) (by simpa using hu) fun h' st' sb => ?_
    have I1 : Inv X pins σ H { s with heap := h' } := I.turned (t' := s.toks) (fun b o hb e => (sb.2 b hb).trans e) f0 f1 f3 f4 f5
    obtain ⟨o, e, c, d⟩ := id st'
    exact ⟨u, rfl, go_of (s := { s with heap := h' }) e c d (by decide) ⟨x, H, I1, ru, ⟨rfl, fun ys hy => by rw [I.list_inj hy hq]; exact hx⟩, st', fun b hb => (hf b hb).1⟩⟩
  done := by
    intro X hP hw hK hc i pins s σ H E I hf st hg
    subst hP hw hK
    obtain ⟨xs, hq, hx⟩ := hg
    obtain ⟨its, rv, p, hz⟩ := I.list hq
    obtain ⟨f0, f1, f2, f3, f4, f5⟩ := hf it (by simp)
    have hl := rv.length
    exact wpAny_pyNext_list_end (I.ok.hd hc) st p.isList (by simp; omega) fun h' eb => ⟨rfl, I.turned (t' := s.toks) (fun b o hb e => eb b o hb e) f0 f1 f3 f4 f5⟩
  self := fun _ _ _ _ _ st h => wpAny_pyIter_listiter st h
theorem turn_range {P : Program} {w : World} {K : PySem.W.Frag} {tg : Expr} (it : Addr) (lo : Int) (n : Nat) : Turn P w K tg (Itr lo n) [it] it (fun i h => IsRangeIter h it (lo + (i : Nat) * 1) ((n : Int) - (i : Nat)) 1) where
  mem := by simp
  obj := fun i h st b hb => by
    have e : b = it := by simpa using hb
    subst e
    exact ⟨_, st, fun v z => by
      have z' : Data.fields _ = Data.cell v := z
      cases z'⟩
  keep := fun i h h' st k => k it (by simp) _ st
  item := by
    intro X hP hw hK hc i pins s σ H E I hf st hg
    subst hP hw hK
    obtain ⟨f0, f1, f2, f3, f4, f5⟩ := hf it (by simp)
    have W := Walks.range (prog := X.prog) (w := X.w) (I.ok.hd hc) it lo 1 n
    refine W.item i s _ _ hg st fun v h' tk hv st' kk => ?_
    obtain ⟨t, rfl⟩ := hv
    have I1 : Inv X pins σ H { s with heap := h', toks := tk } := I.turned (fun b o hb e => kk b o (by simpa using hb) e) f0 f1 f3 f4 f5
    refine ⟨_, rfl, go_of (s := { s with heap := h', toks := tk }) (n := "range_iterator") st' rfl rfl (by decide) ⟨.int (lo + i), H, I1, ⟨t, ?_⟩, ⟨rfl, rfl⟩, st', fun b hb => (hf b hb).1⟩⟩
    rw [Int.mul_one]
  done := by
    intro X hP hw hK hc i pins s σ H E I hf st hg
    subst hP hw hK
    obtain ⟨f0, f1, f2, f3, f4, f5⟩ := hf it (by simp)
    exact wpAny_pyNext_range_end (I.ok.hd hc) st (by have : n ≤ i := hg; omega) fun h' eb => ⟨rfl, I.turned (t' := s.toks) (fun b o hb e => eb b o hb e) f0 f1 f3 f4 f5⟩
  self := fun _ _ _ _ _ st h => wpAny_pyIter_rangeiter st h
end L2
namespace L2
open PySem PySem.Spec PyProof.Rows
section
variable {X:Cx} {tg:Expr}
def iList(K:PySem.W.Frag)(tl:TE):TI:=fun σ H R=>tl σ H fun x H1=>∃ a,x=.ref a/\(∃ xs,SqL K H1 a xs)/\R (Itl K a) H1
def iTup(K:PySem.W.Frag)(tl:TE):TI:=fun σ H R=>tl σ H fun x H1=>∃ a,x=.ref a/\(∃ xs,SqT K H1 a xs)/\R (Itt K a) H1
theorem pi_list{l:Expr}{tl:TE}(hl:PE X l tl):PI X tg l (iList X.K tl):=by
 intro pins s σ H R I h
 refine thn (hl pins s σ H _ I h) fun v s1 ⟨x,H1,I1,r1,q1⟩=>?_
 obtain⟨a,e,⟨xs,hq⟩,q⟩:=q1
 subst e
 cases r1
 obtain⟨its,rv,p,hz⟩:=I1.list hq
 refine wpAny_pyIter_list p.isList ?_
 refine⟨s1.heap.objs.size,[s1.heap.objs.size],_,_,H1,rfl,I1.kept (t':=s1.toks) fun b o e=>Heap.get?_push_of_some _ e,turn_list a _,⟨_,Heap.get?_push_size _ rfl,rfl,rfl⟩,fun b hb=>?_,q⟩
 have e:b=s1.heap.objs.size:=by simpa using hb
 subst e
 exact I1.fpOk (Nat.le_refl _) (I1.hok.fresh (Nat.le_refl _))
theorem range_it{pins:List (Addr×Obj)}{σ:St}{H:Hp}{s:Shared}{R:It->Hp->Prop}{E:Value->Shared->Prop}{lo hi:Int}{t u v:Tok}{tk:Nat}(I:Inv X pins σ H s)(h1:-(2 ^ 62)<=lo)(h2:lo<2 ^ 62)(h3:-(2 ^ 62)<=hi)(h4:hi<2 ^ 62)
  (q:R (Itr lo (hi - lo).toNat) H):wpAny (model X.prog X.w) X.A (pyIter (.ref s.heap.objs.size)) (PIE X pins σ tg R) E { s with heap:=s.heap.push { cls:=.type "range",data:=.fields #[.int lo t,.int hi u,.int 1 v] },toks:=tk }:=by
 refine wpAny_pyIter_range (IsRange.new ..) (small_one h1 h2 h3 h4) ?_
 have I1:Inv X pins σ H { s with heap:=s.heap.push { cls:=.type "range",data:=.fields #[.int lo t,.int hi u,.int 1 v] },toks:=tk }:=I.kept fun b o e=>Heap.get?_push_of_some _ e
 refine⟨(s.heap.push { cls:=.type "range",data:=.fields #[.int lo t,.int hi u,.int 1 v] }).objs.size,[(s.heap.push { cls:=.type "range",data:=.fields #[.int lo t,.int hi u,.int 1 v] }).objs.size],_,_,H,rfl,
  I1.kept (t':=tk) fun b o e=>Heap.get?_push_of_some _ e,turn_range _ lo (hi - lo).toNat,?_,fun b hb=>?_,q⟩
 ·have e1:lo+((0:Nat):Int) * 1=lo:=by simp
  have e2:(((hi - lo).toNat:Nat):Int) - ((0:Nat):Int)=Builtin.Range.rangeSize lo hi 1:=by rw [rangeSize_one];split<;>omega
  show IsRangeIter _ _ (lo+((0:Nat):Int) * 1) ((((hi - lo).toNat:Nat):Int) - ((0:Nat):Int)) 1
  rw [e1,e2]
  exact Heap.get?_push_size _ rfl
 ·have e:b=(s.heap.push { cls:=.type "range",data:=.fields #[.int lo t,.int hi u,.int 1 v] }).objs.size:=by simpa using hb
  subst e
  exact I1.fpOk (Nat.le_refl _) (I1.hok.fresh (Nat.le_refl _))
def iRng1(ta:TA):TI:=fun σ H R=>ta σ H fun vs H1=>∃ j:Int,vs=[.int j]/\-(2 ^ 62)<=j/\j<2 ^ 62/\R (Itr 0 j.toNat) H1
def iRng2(ta:TA):TI:=fun σ H R=>ta σ H fun vs H1=>∃ i j:Int,vs=[.int i,.int j]/\(-(2 ^ 62)<=i/\i<2 ^ 62/\-(2 ^ 62)<=j/\j<2 ^ 62)/\R (Itr i (j - i).toNat) H1
theorem pi_range1 {a:Expr} {ta:TA} {p pos:Pos} (hg:Gl X "range") (hm:X.mg "range"=none) (ha:PA X [a] ta) (hs:starEach [a] X.env=[(false,eval a X.env)]:=by rfl):PI X tg (.Call (.Name "range" p) [a] [] pos) (iRng1 ta):=by
 intro pins s σ H R I h
 refine Call_ (ld_blt I hg hm boot_range (PyProof.Rows.callWith_type1 (thn (ha pos pins s σ H _ I h) fun us s1 ⟨vs,H1,I1,r1,q1⟩=>?_) hs rfl))
 obtain⟨j,e,q1,q2,q⟩:=q1
 subst e
 cases r1 with
 | cons r rr=>
  cases rr
  obtain⟨t,rfl⟩:=r
  exact call_range_1 (range_it I1 (by omega) (by omega) q1 q2 (by simpa using q))
def tFor(wi:TI)(g:TG)(tb:TS):TS:=fun D σ H=>wi σ H fun J H1=>∃ W:Nat->Nat->St->Hp->Prop,(∃ m,W 0 m σ H1)/\∀ i m σ H,W i m σ H →
 (J.stop i H/\D.nx σ H)\/(J.go i H/\∃ N:St->Hp->Prop,(∀ σ' H',N σ' H'->∃ m',m'<m/\W (i+1) m' σ' H')/\∀ x H',J.yld i H x H'->g x σ H' fun σ2 H2=>tb { D with nx:=N,ct:=N,bk:=D.nx } σ2 H2)
def pinsAt(fp:List Addr)(h:Heap):List (Addr×Obj):=fp.filterMap fun b=>(h.get? b).map fun o=>(b,o)
theorem mem_pinsAt{fp:List Addr}{h:Heap}{b:Addr}{o:Obj}(hb:b∈fp)(e:h.get? b=some o):(b,o)∈pinsAt fp h:=List.mem_filterMap.mpr ⟨b,hb,by rw [e];rfl⟩
theorem of_pinsAt{fp:List Addr}{h:Heap}{p:Addr×Obj}(hp:p∈pinsAt fp h):p.1∈fp/\h.get? p.1=some p.2:=by
 obtain⟨b,hb,e⟩:=List.mem_filterMap.mp hp
 cases q:h.get? b with
 | none=>rw [q] at e;cases e
 | some o=>
  rw [q] at e
  have e':(b,o)=p:=Option.some.inj e
  subst e'
  exact⟨hb,q⟩
theorem Inv.pinned{pins:List (Addr×Obj)}{σ:St}{H:Hp}{s:Shared}{fp:List Addr}(I:Inv X pins σ H s)(hf:∀ b∈fp,FpOk X pins H b)(ho:∀ b∈fp,∃ o,s.heap.get? b=some o/\∀ v,o.data≠.cell v):Inv X (pins++pinsAt fp s.heap) σ H s:=
 I.pins_of fun p hp=>(List.mem_append.mp hp).elim (fun z=>I.pin p (List.mem_append_right _ z)) fun z=>by
  obtain⟨hb,e⟩:=of_pinsAt z
  obtain⟨f0,f1,f2,_⟩:=hf p.1 hb
  obtain⟨o,e',d⟩:=ho p.1 hb
  rw [e] at e';cases e'
  exact⟨e,f0,f1,f2,d⟩
theorem Inv.unpinned{pins pl:List (Addr×Obj)}{σ:St}{H:Hp}{s:Shared}(I:Inv X (pins++pl) σ H s):Inv X pins σ H s:=I.pins_of fun p hp=>I.pin p (List.mem_append_right _ (List.mem_append_left _ hp))
theorem ps_for{iter:Expr}{body:List Stmt}{wi:TI}{g:TG}{tb:TS}{pos:Pos}(hp:PassesOwn (model X.prog X.w) X.A X.env X.xe)(hc:X.calm=true)(hi:PI X tg iter wi)(hg:PG X tg g)(hb:PSs X body tb)
  (hs:∀ x,foldedSetIterable iter X.env x=pure x:=by intro _;rfl):PS X (.For tg iter body [] pos) (tFor wi g tb):=by
 intro pins s σ H D I h
 refine wpAny_For (thn (hi pins s σ H _ I h) fun v s1 h1=>thn h1 fun itv s2 h2=>?_) hs
 obtain⟨it,fp,tn,J,H2,e,I2,T,st2,f2,W,⟨m0,w0⟩,turn⟩:=h2
 subst e
 have stat:∀ {H':Hp},(∀ b∈fp,H' b=none)->∀ b∈fp,FpOk X pins H' b:=fun hn b hb=>⟨hn b hb,(f2 b hb).2⟩
 refine codeAny_forLoop_any (fun n s'=>∃ i σ' H',Inv X pins σ' H' s'/\tn i s'.heap/\(∀ b∈fp,H' b=none)/\W i n σ' H') ?_ m0 ⟨0,σ,H2,I2,st2,fun b hb=>(f2 b hb).1,w0⟩
 rintro n s3 ⟨i,σ3,H3,I3,st3,fr3,w3⟩
 rcases turn i n σ3 H3 w3 with ⟨stop,qn⟩ | ⟨go,N,hN,step⟩
 ·refine wpAny_passesOwn hp (thn (T.done X rfl rfl rfl hc i pins s3 σ3 H3 X.xe I3 (stat fr3) st3 stop) fun r s4 ⟨hr,I4⟩=>?_)
  subst hr
  exact wpAny_execs_nil ⟨σ3,H3,I4,qn⟩
 ·refine wpAny_passesOwn hp (thn (T.item X rfl rfl rfl hc i pins s3 σ3 H3 X.xe I3 (stat fr3) st3 go) fun r s4 ⟨u,hr,h4⟩=>?_)
  subst hr
  refine wpAny_passesOwn hp (thn h4 fun _ s5 ⟨x,H5,I5,r5,y5,st5,fr5⟩=>?_)
  have I5':=I5.pinned (stat fr5) (T.obj _ _ st5)
  refine wpAny_passesOwn hp (thn (hg _ s5 σ3 H5 x u _ I5' r5 (step x H5 y5)) fun _ s6 ⟨σ6,H6,I6,q6⟩=>?_)
  refine wpAny_passesOwn hp (thn (hb _ s6 σ6 H6 _ I6 q6) fun f s7 q7=>?_)
  have again:∀ {σ7:St} {H7:Hp},Inv X (pins++pinsAt fp s5.heap) σ7 H7 s7->N σ7 H7->∃ m,m<n/\∃ i σ' H',Inv X pins σ' H' s7/\tn i s7.heap/\(∀ b∈fp,H' b=none)/\W i m σ' H':=fun {σ7 H7} I7 n7=>by
   obtain⟨m',hm,w7⟩:=hN σ7 H7 n7
   refine⟨m',hm,i+1,σ7,H7,I7.unpinned,T.keep _ _ _ st5 fun b hb o e=>(I7.pin (b,o) (List.mem_append_right _ (List.mem_append_right _ (mem_pinsAt hb e)))).1,fun b hb=>?_,w7⟩
   obtain⟨o,e,d⟩:=T.obj _ _ st5 b hb
   exact (I7.pin (b,o) (List.mem_append_right _ (List.mem_append_right _ (mem_pinsAt hb e)))).2.1
  cases f with
  | next=>obtain⟨σ7,H7,I7,n7⟩:=q7;exact again I7 n7
  | cont=>obtain⟨σ7,H7,I7,n7⟩:=q7;exact again I7 n7
  | brk=>obtain⟨σ7,H7,I7,q7⟩:=q7;exact⟨σ7,H7,I7.unpinned,q7⟩
  | ret v=>obtain⟨x7,σ7,H7,I7,r7,q7⟩:=q7;exact⟨x7,σ7,H7,I7.unpinned,r7,q7⟩
end
theorem for_list{K:PySem.W.Frag}{a:Addr}{xs:List V}{g:TG}{tb:TS}{D:Ends}{σ:St}{H:Hp}(Pv:Nat->St->Hp->Prop)(h0:Pv 0 σ H)(hl:∀ i σ H,i<=xs.length->Pv i σ H->SqL K H a xs)
  (hs:∀ i x σ H,xs[i]? = some x->Pv i σ H->g x σ H fun σ2 H2=>tb { D with nx:=Pv (i+1),ct:=Pv (i+1),bk:=D.nx } σ2 H2) (hd:∀ σ H,Pv xs.length σ H->D.nx σ H) :
  ∃ W:Nat->Nat->St->Hp->Prop,(∃ m,W 0 m σ H)/\∀ i m σ H,W i m σ H →
   ((Itl K a).stop i H/\D.nx σ H)\/((Itl K a).go i H/\∃ N:St->Hp->Prop,(∀ σ' H',N σ' H'->∃ m',m'<m/\W (i+1) m' σ' H')/\∀ x H',(Itl K a).yld i H x H'->g x σ H' fun σ2 H2=>tb { D with nx:=N,ct:=N,bk:=D.nx } σ2 H2):=by
 refine⟨fun i m σ H=>m=xs.length - i/\i<=xs.length/\Pv i σ H,⟨xs.length,by simp,Nat.zero_le _,h0⟩,?_⟩
 rintro i m σ H ⟨rfl,hi,p⟩
 have q:=hl i σ H hi p
 by_cases hlt:i<xs.length
 ·refine .inr ⟨⟨xs,xs[i],q,by simp [hlt]⟩,Pv (i+1),fun σ' H' p'=>⟨xs.length - (i+1),by omega,rfl,hlt,p'⟩,fun x H' y=>?_⟩
  obtain⟨e,y⟩:=y
  subst e
  exact hs i x σ _ (y xs q) p
 ·have e:i=xs.length:=by omega
  subst e
  exact .inl ⟨⟨xs,q,Nat.le_refl _⟩,hd σ H p⟩
theorem for_range{lo:Int}{n:Nat}{g:TG}{tb:TS}{D:Ends}{σ:St}{H:Hp}(Pv:Nat->St->Hp->Prop)(h0:Pv 0 σ H)
  (hs:∀ i σ H,i<n->Pv i σ H->g (.int (lo+i)) σ H fun σ2 H2=>tb { D with nx:=Pv (i+1),ct:=Pv (i+1),bk:=D.nx } σ2 H2) (hd:∀ σ H,Pv n σ H->D.nx σ H) :
  ∃ W:Nat->Nat->St->Hp->Prop,(∃ m,W 0 m σ H)/\∀ i m σ H,W i m σ H →
   ((Itr lo n).stop i H/\D.nx σ H)\/((Itr lo n).go i H/\∃ N:St->Hp->Prop,(∀ σ' H',N σ' H'->∃ m',m'<m/\W (i+1) m' σ' H')/\∀ x H',(Itr lo n).yld i H x H'->g x σ H' fun σ2 H2=>tb { D with nx:=N,ct:=N,bk:=D.nx } σ2 H2):=by
 refine⟨fun i m σ H=>m=n - i/\i<=n/\Pv i σ H,⟨n,by simp,Nat.zero_le _,h0⟩,?_⟩
 rintro i m σ H ⟨rfl,hi,p⟩
 by_cases hlt:i<n
 ·refine .inr ⟨hlt,Pv (i+1),fun σ' H' p'=>⟨n - (i+1),by omega,rfl,hlt,p'⟩,fun x H' y=>?_⟩
  obtain⟨e,y⟩:=y
  subst e y
  exact hs i σ _ hlt p
 ·have e:i=n:=by omega
  subst e
  exact .inl ⟨Nat.le_refl _,hd σ H p⟩
end L2
namespace L2
open PySem PySem.Spec PyProof.Rows
abbrev R2:=V->V->Hp->VK->Prop
def OpR(X:Cx)(f:Value->Value->Sem Value)(r:R2):Prop:=
 ∀ (pins:List (Addr×Obj)) (s:Shared) (σ:St) (H:Hp) (x y:V) (v u:Value) (Q:VK),Inv X pins σ H s->RelV x v->RelV y u->r x y H Q →
  wpAny (model X.prog X.w) X.A (f v u) (EP X pins σ Q) X.xe s
def UnR(X:Cx)(f:Value->Sem Value)(r:V->Hp->VK->Prop):Prop:=
 ∀ (pins:List (Addr×Obj)) (s:Shared) (σ:St) (H:Hp) (x:V) (v:Value) (Q:VK),Inv X pins σ H s->RelV x v->r x H Q →
  wpAny (model X.prog X.w) X.A (f v) (EP X pins σ Q) X.xe s
def CallR(X:Cx)(f:Value)(r:List V->Hp->VK->Prop):Prop:=
 ∀ (pins:List (Addr×Obj)) (s:Shared) (σ:St) (H:Hp) (xs:List V) (us:List Value) (Q:VK),Inv X pins σ H s->Vals xs us->r xs H Q →
  wpAny (model X.prog X.w) X.A (call f us) (EP X pins σ Q) X.xe s
def TruR(X:Cx)(r:V->Hp->(Bool->Hp->Prop)->Prop):Prop:=
 ∀ (pins:List (Addr×Obj)) (s:Shared) (σ:St) (H:Hp) (x:V) (v:Value) (Q:Bool->Hp->Prop),Inv X pins σ H s->RelV x v->r x H Q →
  wpAny (model X.prog X.w) X.A (truthy v) (TP X pins σ Q) X.xe s
def tOp(r:R2)(ta tb:TE):TE:=fun σ H Q=>ta σ H fun x H1=>tb σ H1 fun y H2=>r x y H2 Q
def tUn(r:V->Hp->VK->Prop)(ta:TE):TE:=fun σ H Q=>ta σ H fun x H1=>r x H1 Q
def rI(C:Int->Int->Prop)(g:Int->Int->V):R2:=fun x y H Q=>∃ i j,x=.int i/\y=.int j/\C i j/\Q (g i j) H
def rI0(g:Int->Int->V):R2:=fun x y H Q=>∃ i j,x=.int i/\y=.int j/\Q (g i j) H
def rU(g:Int->V):V->Hp->VK->Prop:=fun x H Q=>∃ i,x=.int i/\Q (g i) H
section
variable {X:Cx} {a b c:Expr} {ta tb tc:TE} {pos:Pos}
theorem binT(ha:PE X a ta)(hb:PE X b tb){pins:List (Addr×Obj)}{s:Shared}{σ:St}{H:Hp}{R:V->V->Hp->Prop}(I:Inv X pins σ H s)
  (h:ta σ H fun x H1=>tb σ H1 fun y H2=>R x y H2) {Q:Value->Shared->Prop} {f:Value->Value->Sem Value}
  (hf:∀ v u s2 x y H2,Inv X pins σ H2 s2->RelV x v->RelV y u->R x y H2->wpAny (model X.prog X.w) X.A (f v u) Q X.xe s2) :
  wpAny (model X.prog X.w) X.A (eval a X.env) (fun v s₁=>wpAny (model X.prog X.w) X.A (eval b X.env) (fun u s₂=>wpAny (model X.prog X.w) X.A (f v u) Q X.xe s₂) X.xe s₁) X.xe s:=by
 refine thn (ha pins s σ H _ I h) fun v s1 ⟨x,H1,I1,r1,q1⟩=>?_
 refine thn (hb pins s1 σ H1 _ I1 q1) fun u s2 ⟨y,H2,I2,r2,q2⟩=>?_
 exact hf v u s2 x y H2 I2 r1 r2 q2
theorem pe_op{op:Operator}{r:R2}(ho:OpR X (binaryOp op) r)(ha:PE X a ta)(hb:PE X b tb):PE X (.BinOp a op b pos) (tOp r ta tb):=by
 intro pins s σ H Q I h
 exact wpAny_BinOp (binT ha hb I h fun v u s2 x y H2 I2 rx ry q=>ho pins s2 σ H2 x y v u Q I2 rx ry q)
theorem pe_un{op:UnaryOp}{r:V->Hp->VK->Prop}(ho:UnR X (unaryOp op) r)(ha:PE X a ta):PE X (.UnaryOp op a pos) (tUn r ta):=by
 intro pins s σ H Q I h
 exact UnaryOp_ (thn (ha pins s σ H _ I h) fun v s1 ⟨x,H1,I1,r1,q1⟩=>ho pins s1 σ H1 x v Q I1 r1 q1)
theorem opI{f:Value->Value->Sem Value}{C:Int->Int->Prop}{g:Int->Int->Int}
  (rule:∀ (i j:Int) (t u:Tok) (s:Shared) (Q:Value->Shared->Prop) (E:Value->Shared->Prop),C i j->Q (.int (g i j) s.toks) { s with toks:=s.toks+1 }->wpAny (model X.prog X.w) X.A (f (.int i t) (.int j u)) Q E s) :
  OpR X f (rI C fun i j=>.int (g i j)):=by
 intro pins s σ H x y v u Q I rx ry h
 obtain⟨i,j,rfl,rfl,hc,q⟩:=h
 obtain⟨t,rfl⟩:=rx
 obtain⟨t',rfl⟩:=ry
 exact rule i j t t' s _ _ hc ⟨.int (g i j),H,I.tok _,⟨_,rfl⟩,q⟩
theorem opI0{f:Value->Value->Sem Value}{g:Int->Int->Int}
  (rule:∀ (i j:Int) (t u:Tok) (s:Shared) (Q:Value->Shared->Prop) (E:Value->Shared->Prop),Q (.int (g i j) s.toks) { s with toks:=s.toks+1 }->wpAny (model X.prog X.w) X.A (f (.int i t) (.int j u)) Q E s) :
  OpR X f (rI0 fun i j=>.int (g i j)):=by
 intro pins s σ H x y v u Q I rx ry h
 obtain⟨i,j,rfl,rfl,q⟩:=h
 obtain⟨t,rfl⟩:=rx
 obtain⟨t',rfl⟩:=ry
 exact rule i j t t' s _ _ ⟨.int (g i j),H,I.tok _,⟨_,rfl⟩,q⟩
theorem opB0{f:Value->Value->Sem Value}{g:Int->Int->Bool}
  (rule:∀ (i j:Int) (t u:Tok) (s:Shared) (Q:Value->Shared->Prop) (E:Value->Shared->Prop),Q (.bool (g i j)) s->wpAny (model X.prog X.w) X.A (f (.int i t) (.int j u)) Q E s) :
  OpR X f (rI0 fun i j=>.bl (g i j)):=by
 intro pins s σ H x y v u Q I rx ry h
 obtain⟨i,j,rfl,rfl,q⟩:=h
 obtain⟨t,rfl⟩:=rx
 obtain⟨t',rfl⟩:=ry
 exact rule i j t t' s _ _ ⟨.bl (g i j),H,I,rfl,q⟩
def CDiv(i j:Int):Prop:=0<j/\j<1073741824
def CPow(i j:Int):Prop:=0<=j/\j<=1000000/\i.natAbs<2 ^ 64
def CMul(i j:Int):Prop:=(-(2 ^ 64)<i/\i<2 ^ 64)\/(-(2 ^ 64)<j/\j<2 ^ 64)
theorem CMul.ok{i j:Int}(h:CMul i j):IntMulOk i j:=by
 rcases h with ⟨h1,h2⟩ | ⟨h1,h2⟩
 ·exact .of_left (intBits_le_64 h1 h2)
 ·exact .of_right (intBits_le_64 h1 h2)
theorem op_add:OpR X (binaryOp .Add) (rI0 fun i j=>.int (i+j)):=opI0 fun _ _ _ _ _ _ _ q=>add_int q
theorem op_sub:OpR X (binaryOp .Sub) (rI0 fun i j=>.int (i - j)):=opI0 fun _ _ _ _ _ _ _ q=>sub_int q
theorem op_mul:OpR X (binaryOp .Mult) (rI CMul fun i j=>.int (i * j)):=opI fun _ _ _ _ _ _ _ hc q=>mul_int q hc.ok
theorem op_fdiv:OpR X (binaryOp .FloorDiv) (rI CDiv fun i j=>.int (i / j)):=opI fun i j _ _ _ _ _ hc q=>by
 have h1:(0:Int)<j:=hc.1
 have h2:j<1073741824:=hc.2
 exact floordiv_int (by omega) (by rw [Int.fdiv_eq_ediv_of_nonneg i (by omega)];exact q) (.inl (PyProof.noPylong_small (by omega)))
theorem op_mod:OpR X (binaryOp .Mod) (rI (fun _ j=>0<j) fun i j=>.int (i % j)):=opI fun i j _ _ _ _ _ hc q=>by
 have h1:(0:Int)<j:=hc
 exact mod_int' (by omega) (by rw [Int.fmod_eq_emod_of_nonneg i (by omega)];exact q)
theorem op_pow:OpR X (binaryOp .Pow) (rI CPow fun i j=>.int (i ^ j.toNat)):=opI fun _ _ _ _ _ _ _ hc q=>pow_int_small hc.1 hc.2.1 hc.2.2 q
theorem unI{f:Value->Sem Value}{g:Int->Int}
  (rule:∀ (i:Int) (t:Tok) (s:Shared) (Q:Value->Shared->Prop) (E:Value->Shared->Prop),Q (.int (g i) s.toks) { s with toks:=s.toks+1 }->wpAny (model X.prog X.w) X.A (f (.int i t)) Q E s) :
  UnR X f (rU fun i=>.int (g i)):=by
 intro pins s σ H x v Q I rx h
 obtain⟨i,rfl,q⟩:=h
 obtain⟨t,rfl⟩:=rx
 exact rule i t s _ _ ⟨.int (g i),H,I.tok _,⟨_,rfl⟩,q⟩
theorem un_neg:UnR X (unaryOp .USub) (rU fun i=>.int (-i)):=unI fun _ _ _ _ _ q=>neg_int q
end
def scal:V->V->Bool
 | .non,.non=>true | .non,.int _=>true | .int _,.non=>true | .non,.bl _=>true | .bl _,.non=>true | .non,.str _=>true | .str _,.non=>true
 | .int _,.int _=>true | .bl _,.bl _=>true | .str _,.str _=>true | .byt _,.byt _=>true
 | .int _,.str _=>true | .str _,.int _=>true | .bl _,.str _=>true | .str _,.bl _=>true
 | _,_=>false
def rEq:R2:=fun x y H Q=>scal x y=true/\Q (.bl (decide (x=y))) H
def rNe:R2:=fun x y H Q=>scal x y=true/\Q (.bl (!decide (x=y))) H
theorem dec_int{i j:Int}:decide (V.int i=V.int j)=(i==j):=by
 rw [Bool.eq_iff_iff]
 simp
theorem dec_bl{i j:Bool}:decide (V.bl i=V.bl j)=(i==j):=by
 rw [Bool.eq_iff_iff]
 simp
theorem dec_str{i j:Str}:decide (V.str i=V.str j)=(i==j):=by
 rw [Bool.eq_iff_iff]
 simp
theorem dec_byt{i j:Array UInt8}:decide (V.byt i=V.byt j)=(i.toList==j.toList):=by
 rw [Bool.eq_iff_iff]
 cases i
 cases j
 simp
section
variable {X:Cx} {a b c:Expr} {ta tb tc:TE} {pos:Pos}
theorem fin_bl{pins:List (Addr×Obj)}{σ:St}{H:Hp}{s:Shared}{Q:VK}{k k':Bool}(I:Inv X pins σ H s)(q:Q (.bl k) H)(e:k=k'):EP X pins σ Q (.bool k') s:=by
 subst e
 exact⟨.bl k,H,I,rfl,q⟩
theorem op_eq:OpR X (compareOp .Eq) rEq:=by
 intro pins s σ H x y v u Q I rx ry h
 obtain⟨hs,q⟩:=h
 cases x with
 | non=>
  cases rx
  cases y with
  | non=>cases ry;exact PySem.EqNone.eq_none_none (fin_bl I q (by simp))
  | bl j=>cases ry;exact PySem.EqNone.eq_none_bool (fin_bl I q (by simp))
  | int j=>obtain⟨t',rfl⟩:=ry;exact PySem.EqNone.eq_none_int (fin_bl I q (by simp))
  | str j=>obtain⟨t',rfl⟩:=ry;exact PySem.EqNone.eq_none_str (fin_bl I q (by simp))
  | _=>exact absurd (show false=true from hs) Bool.false_ne_true
 | bl i=>
  cases rx
  cases y with
  | non=>cases ry;exact PySem.EqNone.eq_bool_none (fin_bl I q (by simp))
  | bl j=>cases ry;exact eq_bool (fin_bl I q dec_bl)
  | str j=>obtain⟨t',rfl⟩:=ry;exact PySem.EqMixed.eq_bool_str (fin_bl I q (by simp))
  | _=>exact absurd (show false=true from hs) Bool.false_ne_true
 | int i=>
  obtain⟨t,rfl⟩:=rx
  cases y with
  | non=>cases ry;exact PySem.EqNone.eq_int_none (fin_bl I q (by simp))
  | int j=>obtain⟨t',rfl⟩:=ry;exact eq_int (fin_bl I q dec_int)
  | str j=>obtain⟨t',rfl⟩:=ry;exact PySem.EqMixed.eq_int_str (fin_bl I q (by simp))
  | _=>exact absurd (show false=true from hs) Bool.false_ne_true
 | str i=>
  obtain⟨t,rfl⟩:=rx
  cases y with
  | non=>cases ry;exact PySem.EqNone.eq_str_none (fin_bl I q (by simp))
  | bl j=>cases ry;exact PySem.EqMixed.eq_str_bool (fin_bl I q (by simp))
  | int j=>obtain⟨t',rfl⟩:=ry;exact PySem.EqMixed.eq_str_int (fin_bl I q (by simp))
  | str j=>obtain⟨t',rfl⟩:=ry;exact eq_str (fin_bl I q dec_str)
  | _=>exact absurd (show false=true from hs) Bool.false_ne_true
 | byt i=>
  obtain⟨t,rfl⟩:=rx
  cases y with
  | byt j=>obtain⟨t',rfl⟩:=ry;exact PySem.W.eq_bytes (fin_bl I q dec_byt)
  | _=>exact absurd (show false=true from hs) Bool.false_ne_true
 | _=>cases y<;>exact absurd (show false=true from hs) Bool.false_ne_true
theorem op_ne:OpR X (compareOp .NotEq) rNe:=by
 intro pins s σ H x y v u Q I rx ry h
 obtain⟨hs,q⟩:=h
 cases x with
 | non=>
  cases rx
  cases y with
  | non=>cases ry;exact PySem.EqNone.ne_none_none (fin_bl I q (by simp))
  | bl j=>cases ry;exact PySem.EqNone.ne_none_bool (fin_bl I q (by simp))
  | int j=>obtain⟨t',rfl⟩:=ry;exact PySem.EqNone.ne_none_int (fin_bl I q (by simp))
  | str j=>obtain⟨t',rfl⟩:=ry;exact PySem.EqNone.ne_none_str (fin_bl I q (by simp))
  | _=>exact absurd (show false=true from hs) Bool.false_ne_true
 | bl i=>
  cases rx
  cases y with
  | non=>cases ry;exact PySem.EqNone.ne_bool_none (fin_bl I q (by simp))
  | bl j=>cases ry;exact ne_bool (fin_bl I q (congrArg not dec_bl))
  | str j=>obtain⟨t',rfl⟩:=ry;exact PySem.EqMixed.ne_bool_str (fin_bl I q (by simp))
  | _=>exact absurd (show false=true from hs) Bool.false_ne_true
 | int i=>
  obtain⟨t,rfl⟩:=rx
  cases y with
  | non=>cases ry;exact PySem.EqNone.ne_int_none (fin_bl I q (by simp))
  | int j=>obtain⟨t',rfl⟩:=ry;exact ne_int (fin_bl I q (congrArg not dec_int))
  | str j=>obtain⟨t',rfl⟩:=ry;exact PySem.EqMixed.ne_int_str (fin_bl I q (by simp))
  | _=>exact absurd (show false=true from hs) Bool.false_ne_true
 | str i=>
  obtain⟨t,rfl⟩:=rx
  cases y with
  | non=>cases ry;exact PySem.EqNone.ne_str_none (fin_bl I q (by simp))
  | bl j=>cases ry;exact PySem.EqMixed.ne_str_bool (fin_bl I q (by simp))
  | int j=>obtain⟨t',rfl⟩:=ry;exact PySem.EqMixed.ne_str_int (fin_bl I q (by simp))
  | str j=>obtain⟨t',rfl⟩:=ry;exact ne_str (fin_bl I q (congrArg not dec_str))
  | _=>exact absurd (show false=true from hs) Bool.false_ne_true
 | byt i=>
  obtain⟨t,rfl⟩:=rx
  cases y with
  | byt j=>obtain⟨t',rfl⟩:=ry;exact PySem.W.ne_bytes (fin_bl I q (congrArg not dec_byt))
  | _=>exact absurd (show false=true from hs) Bool.false_ne_true
 | _=>cases y<;>exact absurd (show false=true from hs) Bool.false_ne_true
theorem op_lt:OpR X (compareOp .Lt) (rI0 fun i j=>.bl (decide (i<j))):=opB0 fun _ _ _ _ _ _ _ q=>lt_int q
theorem op_le:OpR X (compareOp .LtE) (rI0 fun i j=>.bl (decide (i<=j))):=opB0 fun _ _ _ _ _ _ _ q=>le_int q
theorem op_gt:OpR X (compareOp .Gt) (rI0 fun i j=>.bl (decide (j<i))):=opB0 fun _ _ _ _ _ _ _ q=>gt_int q
theorem op_notN:OpR X (compareOp .IsNot) (fun x y H Q=>y=.non/\Q (.bl (!decide (x=.non))) H):=by
 intro pins s σ H x y v u Q I rx ry h
 obtain⟨rfl,q⟩:=h
 cases ry
 refine isnot_none_gen (fin_bl I q ?_)
 cases x<;>first
  | (cases rx;rfl)
  | (obtain⟨t,rfl⟩:=rx;rfl)
theorem nomark(b:Expr){op:CmpOp}(h:op≠.In:=by decide)(h2:op≠.NotIn:=by decide):behindInMarks op b=false:=by
 have e1:(op==CmpOp.In)=false:=by cases op<;>first | rfl | exact absurd rfl h
 have e2:(op==CmpOp.NotIn)=false:=by cases op<;>first | rfl | exact absurd rfl h2
 cases b<;>simp [behindInMarks,e1,e2]
theorem pe_cmpR{op:CmpOp}{r:R2}(ho:OpR X (compareOp op) r)(ha:PE X a ta)(hb:PE X b tb)(hm:behindInMarks op b=false):PE X (.Compare a [op] [b] pos) (tOp r ta tb):=by
 intro pins s σ H Q I h
 exact wpAny_Compare1 (binT ha hb I h fun v u s2 x y H2 I2 rx ry q=>ho pins s2 σ H2 x y v u Q I2 rx ry q) hm
def tTest(t:TE):TT:=fun σ H Q=>t σ H fun x H'=>∃ k,x=.bl k/\Q k H'
theorem pt_cmpR{op:CmpOp}{r:R2}(ho:OpR X (compareOp op) r)(ha:PE X a ta)(hb:PE X b tb)(hm:behindInMarks op b=false):PT X (.Compare a [op] [b] pos) (tTest (tOp r ta tb)):=by
 intro pins s σ H Q I h
 refine wpAny_isTrue_Compare1 (thn (ha pins s σ H _ I h) fun v s1 ⟨x,H1,I1,r1,q1⟩=>thn (hb pins s1 σ H1 _ I1 q1) fun u s2 ⟨y,H2,I2,r2,q2⟩=>
  thn (ho pins s2 σ H2 x y v u _ I2 r1 r2 q2) fun c s3 ⟨z,H3,I3,r3,k,e,q3⟩=>?_) hm
 subst e
 cases r3
 exact wpAny_truthy_bool ⟨H3,I3,q3⟩
def tChain(r r':R2)(ta tb tc:TE):TE:=fun σ H Q=>ta σ H fun x H1=>tb σ H1 fun y H2=>r x y H2 fun z H3=>∃ k,z=.bl k ∧
 (if k=true then tc σ H3 fun w' H4=>r' y w' H4 Q else Q (.bl false) H3)
theorem pe_chain{op op':CmpOp}{r r':R2}(ho:OpR X (compareOp op) r)(ho':OpR X (compareOp op') r')(ha:PE X a ta)(hb:PE X b tb)(hc:PE X c tc)
  (hm:lastMarks [op,op'] [b,c]=false:=by with_unfolding_all rfl):PE X (.Compare a [op,op'] [b,c] pos) (tChain r r' ta tb tc):=by
 intro pins s σ H Q I h
 refine Compare_chain (thn (ha pins s σ H _ I h) fun v s1 ⟨x,H1,I1,r1,q1⟩=>chain_link (thn (hb pins s1 σ H1 _ I1 q1) fun u s2 ⟨y,H2,I2,r2,q2⟩=>
  thn (ho pins s2 σ H2 x y v u _ I2 r1 r2 q2) fun d s3 ⟨z,H3,I3,r3,k,e,q3⟩=>?_)) hm
 subst e
 cases r3
 refine wpAny_truthy_bool ?_
 cases k with
 | false=>exact ite_ff ⟨.bl false,H3,I3,rfl,q3⟩
 | true=>exact ite_tt (chain_last (thn (hc pins s3 σ H3 _ I3 q3) fun w' s4 ⟨z',H4,I4,r4,q4⟩=>ho' pins s4 σ H4 y z' u w' Q I4 r2 r4 q4))
def TruV(K:PySem.W.Frag)(x:V)(H:Hp)(k:Bool):Prop:=
 match x with
 | .non=>k=false
 | .bl b=>k=b
 | .int i=>k=(i != 0)
 | .str y=>y.length<=sizeLine/\k=((y.length:Int) != 0)
 | .byt y=>y.size<=sizeLine/\k=((y.size:Int) != 0)
 | .ref p=>(∃ xs,SqL K H p xs/\k=!xs.isEmpty)\/(∃ xs,SqT K H p xs/\k=!xs.isEmpty)\/∃ kvs,H p=some (.dK kvs)/\k=!kvs.isEmpty
 | _=>False
theorem isEmpty_kv{κ:Type}{kvs:List (κ×V)}{vs:List (κ×Value)}(r:KV kvs vs):(!vs.isEmpty)=!kvs.isEmpty:=by
 cases r<;>rfl
theorem isEmpty_of{xs:List V}{its:List Value}(r:Vals xs its):(!its.toArray.isEmpty)=!xs.isEmpty:=by
 cases r<;>simp
theorem line63:(sizeLine:Nat)<2 ^ 63:=by rw [sizeLine_eq];decide
theorem tru_ok:TruR X (fun x H Q=>∃ k,TruV X.K x H k/\Q k H):=by
 intro pins s σ H x v Q I rx h
 obtain⟨k,e,q⟩:=h
 have hl:=line63
 have hs:sizeLine=16777216:=sizeLine_eq
 cases x with
 | non=>
  cases rx
  have e':k=false:=e
  subst e'
  exact truthy_none ⟨H,I,q⟩
 | bl b=>
  cases rx
  have e':k=b:=e
  subst e'
  exact wpAny_truthy_bool ⟨H,I,q⟩
 | int i=>
  obtain⟨t,rfl⟩:=rx
  have e':k=(i != 0):=e
  subst e'
  exact PySem.P.truthy_int ⟨H,I,q⟩
 | str y=>
  obtain⟨t,rfl⟩:=rx
  obtain⟨hy,e'⟩:y.length<=sizeLine/\k=((y.length:Int) != 0):=e
  subst e'
  exact PySem.P.truthy_str (by omega) ⟨H,I.tok _,q⟩
 | byt y=>
  obtain⟨t,rfl⟩:=rx
  obtain⟨hy,e'⟩:y.size<=sizeLine/\k=((y.size:Int) != 0):=e
  subst e'
  exact PySem.W.truthy_bytes (by omega) ⟨H,I.tok _,q⟩
 | ref p=>
  cases rx
  have e':(∃ xs,SqL X.K H p xs/\k=!xs.isEmpty)\/(∃ xs,SqT X.K H p xs/\k=!xs.isEmpty)\/∃ kvs,H p=some (.dK kvs)/\k=!kvs.isEmpty:=e
  rcases e' with ⟨xs,hx,e'⟩ | ⟨xs,hx,e'⟩ | ⟨kvs,hx,e'⟩
  ·subst e'
   obtain⟨its,r,pl,hz⟩:=I.list hx
   have hlen:=r.length
   exact wpAny_truthy_list pl.isList (by simp only [List.size_toArray];omega) ⟨H,I.tok _,by rw [isEmpty_of r];exact q⟩
  ·subst e'
   obtain⟨its,r,pl,hz⟩:=I.tuple hx
   have hlen:=r.length
   exact truthy_tuple pl (by simp only [List.size_toArray];omega) ⟨H,I.tok _,by rw [isEmpty_of r];exact q⟩
  ·subst e'
   obtain⟨hz,hS,vs,r,m⟩:kvs.length<=sizeLine/\(p==sysModules)=false/\∃ vs,KV kvs vs/\s.heap.DictOf (mixKind X.prog X.w) p vs:=I.hok p _ hx
   have hlen:kvs.length=vs.length:=Paired.length r
   exact wpAny_truthy_dict hS m (by omega) ⟨H,I.tok _,by rw [isEmpty_kv r];exact q⟩
 | _=>exact (show False from e).elim
theorem pt_truth(ha:PE X a ta)(he:∀ whole,isTrue a X.env whole=(do let v <-whole;standAt a.pos;holding [v] (truthy v))):
  PT X a (fun σ H Q=>ta σ H fun x H'=>∃ k,TruV X.K x H' k/\Q k H'):=by
 intro pins s σ H Q I h
 exact isTrue_plain (thn (ha pins s σ H _ I h) fun v s1 ⟨x,H1,I1,r1,q1⟩=>tru_ok pins s1 σ H1 x v Q I1 r1 q1) (he _)
theorem op_add_str:OpR X (binaryOp .Add) (fun x y H Q=>∃ i j,x=.str i/\y=.str j/\i.length+j.length<=sizeLine/\Q (.str (i++j)) H):=by
 intro pins s σ H x y v u Q I rx ry h
 obtain⟨i,j,rfl,rfl,hz,q⟩:=h
 obtain⟨t,rfl⟩:=rx
 obtain⟨t',rfl⟩:=ry
 exact add_str (fun t' tk=>⟨.str (i++j),H,I.tok _,⟨_,rfl⟩,q⟩) hz
theorem vals1{x:V}{us:List Value}(r:Vals [x] us):∃ u,us=[u]/\RelV x u:=by
 cases r with
 | cons r1 r2=>cases r2;exact⟨_,rfl,r1⟩
theorem vals2{x y:V}{us:List Value}(r:Vals [x,y] us):∃ u w',us=[u,w']/\RelV x u/\RelV y w':=by
 cases r with
 | cons r1 r2=>
  cases r2 with
  | cons r3 r4=>cases r4;exact⟨_,_,rfl,r1,r3⟩
theorem call_max2 (hc:X.calm=true):CallR X (.builtin "max") (fun xs H Q=>∃ i j,xs=[.int i,.int j]/\Q (.int (if j > i then j else i)) H):=by
 intro pins s σ H xs us Q I r h
 obtain⟨i,j,rfl,q⟩:=h
 obtain⟨u,w',rfl,⟨t,rfl⟩,⟨t',rfl⟩⟩:=vals2 r
 refine max_two_ints (I.ok.hd hc) fun h' tk k=>⟨_,H,I.kept k,?_,q⟩
 by_cases hj:j > i
 ·rw [if_pos hj,if_pos hj];exact⟨_,rfl⟩
 ·rw [if_neg hj,if_neg hj];exact⟨_,rfl⟩
theorem call_min2 (hc:X.calm=true):CallR X (.builtin "min") (fun xs H Q=>∃ i j,xs=[.int i,.int j]/\Q (.int (if j<i then j else i)) H):=by
 intro pins s σ H xs us Q I r h
 obtain⟨i,j,rfl,q⟩:=h
 obtain⟨u,w',rfl,⟨t,rfl⟩,⟨t',rfl⟩⟩:=vals2 r
 refine min_two_ints (I.ok.hd hc) fun h' tk k=>⟨_,H,I.kept k,?_,q⟩
 by_cases hj:j<i
 ·rw [if_pos hj,if_pos hj];exact⟨_,rfl⟩
 ·rw [if_neg hj,if_neg hj];exact⟨_,rfl⟩
end
end L2
namespace L2
open PySem PySem.Spec PyProof.Rows
structure ObjM (h:Heap) (x dx C:Addr) (mA:Str->Option Value):Prop where
 obj:h.get? x=some (PySem.W.instObj C dx)
 ns:h.Ns1 dx mA
 ne:dx≠x
theorem lookIn_ns{h:Heap}{dx:Addr}{mA:Str->Option Value}(n:h.Ns1 dx mA):∃ od,h.get? dx=some od/\∀ name,PySem.W.lookIn name od=some (mA name):=by
 obtain⟨o,es,ep,ho,hd,hk,_,hm⟩:=n
 refine⟨o,ho,fun name=>?_⟩
 have e:=hm name
 unfold nsFind findBy at e
 rw [<-Array.find?_toList] at e
 unfold PySem.W.lookIn
 rw [hd]
 dsimp only
 split
 ·rename_i y q
  rw [q] at e
  exact congrArg some e
 ·rename_i q
  rw [q] at e
  have a:es.toList.any (·.refKey)=false:=by
   rw [List.any_eq_false]
   intro y hy
   obtain⟨z,t,hkey⟩:=hk y (Array.mem_toList_iff.mp hy)
   simp [DictEntry.refKey,hkey]
  have a':¬ es.toList.any (·.refKey)=true:=by rw [a];exact Bool.false_ne_true
  rw [if_neg a']
  exact congrArg some e
theorem ObjM.look{h:Heap}{x dx C:Addr}{mA:Str->Option Value}(I:ObjM h x dx C mA):∃ od,PySem.W.InstAt h x (PySem.W.instObj C dx) C (some od)/\∀ name,PySem.W.lookIn name od=some (mA name):=
 let ⟨od,ho,hl⟩:=lookIn_ns I.ns
 ⟨od,⟨I.obj,rfl,rfl,ho⟩,hl⟩
section
variable {prog:Program} {w:World} {A:Around} {E:Value->Shared->Prop} {s:Shared} {K:PySem.W.Frag} {x dx C f:Addr} {mA:Str->Option Value} {name:Str} {v:Value}
end
theorem RelO.some_of{v:V}{o:Option Value}(r:RelO (some v) o):∃ u,o=some u/\RelV v u:=by
 cases o with
 | none=>exact (show False from r).elim
 | some u=>exact⟨u,rfl,r⟩
section
variable {P:Program} {w:World} {H H':Hp} {h h':Heap} {a C dx:Addr} {fs fs':List (Str×V)}
theorem ins_get(hok:HOk P w H h)(e:H a=some (.ins C dx fs)):∃ mA,ObjM h a dx C mA/\(∀ f,RelO (fs.lookup f) (mA f))/\PySem.Within mA (fs.map (·.1))/\fs.length<=1000/\H dx=some (.own a):=by
 obtain⟨d,z,ne,ob,mA,n,r,q⟩:=(show ObjOk P w H h a (.ins C dx fs) from hok a _ e)
 exact⟨mA,⟨ob,n,ne⟩,r,q,z,d⟩
end
structure Cls (K:PySem.W.Frag) (C:Addr):Prop where
 pg:PySem.W.plainGet K C Str.empty=true
 hd:PySem.W.hasDictIn K C=true
 po:PySem.W.plainOver K C=true
 sa:PySem.W.findIn K (.ref C) "__setattr__"=some (some (.builtin "object.__setattr__"))
theorem Cls.get{K:PySem.W.Frag}{C:Addr}(c:Cls K C)(f:Str):PySem.W.plainGet K C f=true:=c.pg
section
variable {X:Cx} {pins:List (Addr×Obj)} {σ:St} {H:Hp} {s:Shared} {a C dx:Addr} {fs:List (Str×V)} {f:Str} {v:V} {A:Around} {E:Value->Shared->Prop}
end
section
variable {X:Cx} {pins:List (Addr×Obj)} {σ:St} {H:Hp} {s:Shared} {A:Around} {E:Value->Shared->Prop} {Q:Value->Shared->Prop} {c:Value} {b:Bool}
inductive TyOf (K : PySem.W.Frag) (H : Hp) : V → Value → Prop where
 | non : TyOf K H .non (.type "NoneType")
 | bl (x : Bool) : TyOf K H (.bl x) (.type "bool")
 | int (i : Int) : TyOf K H (.int i) (.type "int")
 | str (x : Str) : TyOf K H (.str x) (.type "str")
 | flt (x : UInt64) : TyOf K H (.flt x) (.type "float")
 | lst {a : Addr} {xs : List V} (e : H a = some (.lst xs)) : TyOf K H (.ref a) (.type "list")
 | frz {a : Addr} {o : Obj} {xs : List V} (e : H a = some (.frz o (.lst xs))) : TyOf K H (.ref a) (.type "list")
 | tup {a : Addr} {xs : List V} (e : H a = some (.tup xs)) : TyOf K H (.ref a) (.type "tuple")
 | dK {a : Addr} {kvs : List (Key × V)} (e : H a = some (.dK kvs)) : TyOf K H (.ref a) (.type "dict")
 | dT {a : Addr} {kvs : List (List Key × V)} (e : H a = some (.dT kvs)) : TyOf K H (.ref a) (.type "dict")
 | ins {a C dx : Addr} {fs : List (Str × V)} (e : H a = some (.ins C dx fs)) (cl : Cls K C) (ha : PySem.W.findIn K (.ref C) "__class__" = some (some (.builtin "object.__class__")))
   (hn : PySem.W.specialIn K (.builtin "object.__class__") "__get__" = some (some (.builtin "getset_descriptor.__get__"))) (htk : PySem.W.takesIn K (.builtin "object.__class__") = some true)
   (hm : PySem.W.mroIn K C (.type "object") = some true) : TyOf K H (.ref a) (.ref C)
theorem isinst_ok{x:V}{u t:Value}(I:Inv X pins σ H s)(rx:RelV x u)(ty:TyOf X.K H x t)(e:PySem.W.kitOne X.K t c=some b)(h:∀ tk,Q (.bool b) { s with toks:=tk }):
  wpAny (model X.prog X.w) A (call (.builtin "isinstance") [u,c]) Q E s:=by
 cases ty with
 | non=>cases (show u=Value.none from rx);exact PySem.W.kia_one PySem.W.kitx_none I.kIn True.intro e (fun z=>nomatch z) h
 | bl y=>cases (show u=Value.bool y from rx);exact PySem.W.kia_one PySem.W.kitx_bool I.kIn True.intro e (fun z=>nomatch z) h
 | int i=>obtain⟨t,q⟩:=(show ∃ t,u=Value.int i t from rx);cases q;exact PySem.W.kia_one PySem.W.kitx_int I.kIn True.intro e (fun z=>nomatch z) h
 | str y=>obtain⟨t,q⟩:=(show ∃ t,u=Value.str y t from rx);cases q;exact PySem.W.kia_one PySem.W.kitx_str I.kIn True.intro e (fun z=>nomatch z) h
 | flt y=>obtain⟨t,q⟩:=(show ∃ t,u=Value.float y t from rx);cases q;exact PySem.W.kia_one PySem.W.kitx_float I.kIn True.intro e (fun z=>nomatch z) h
 | @lst a xs ea=>
  cases (show u=Value.ref a from rx)
  obtain⟨_,_,n,_,h1⟩:=(show ObjOk X.prog X.w H s.heap a (.lst xs) from I.hok a _ ea)
  exact PySem.W.kia_one PySem.W.kitx_list I.kIn ⟨_,h1,rfl⟩ e (fun z=>nomatch z) h
 | @frz a ob xs ea=>
  cases (show u=Value.ref a from rx)
  obtain⟨_,_,_,n,_,h1⟩:=(show ObjOk X.prog X.w H s.heap a (.frz ob (.lst xs)) from I.hok a _ ea)
  exact PySem.W.kia_one PySem.W.kitx_list I.kIn ⟨_,h1,rfl⟩ e (fun z=>nomatch z) h
 | @tup a xs ea=>
  cases (show u=Value.ref a from rx)
  obtain⟨_,_,_,p⟩:=(show ObjOk X.prog X.w H s.heap a (.tup xs) from I.hok a _ ea)
  obtain⟨o,h1,h2,_⟩:=p
  exact PySem.W.kia_one PySem.W.kitx_tuple I.kIn ⟨o,h1,h2⟩ e (fun z=>nomatch z) h
 | @dK a kvs ea=>
  cases (show u=Value.ref a from rx)
  obtain⟨_,_,vs,_,p⟩:=(show ObjOk X.prog X.w H s.heap a (.dK kvs) from I.hok a _ ea)
  obtain⟨o,es,ep,h1,h2,_⟩:=p
  exact PySem.W.kia_one PySem.W.kitx_dict I.kIn ⟨o,h1,h2.1⟩ e (fun z=>nomatch z) h
 | @dT a kvs ea=>
  cases (show u=Value.ref a from rx)
  obtain⟨_,_,xs,_,o,es,ep,h1,h2,_⟩:=(show ObjOk X.prog X.w H s.heap a (.dT kvs) from I.hok a _ ea)
  exact PySem.W.kia_one PySem.W.kitx_dict I.kIn ⟨o,h1,h2.1⟩ e (fun z=>nomatch z) h
 | @ins a C dx fs ea cl ha hn htk hm=>
  cases (show u=Value.ref a from rx)
  obtain⟨mA,O,_⟩:=ins_get I.hok ea
  obtain⟨od,J,_⟩:=O.look
  exact PySem.W.kia_one (PySem.W.kitx_own (cl.get _) cl.hd ha hn htk hm) I.kIn J e (fun z=>nomatch z) h
end
end L2
namespace L2
open PySem PySem.Spec PyProof.Rows
structure Room (k:Nat) (A:Around):Prop where
 hd:A.handled=none
 dp:A.depth+3 * k+5<recursionLimit
 un:A.units+16 * k+200<cLine
 gd:A.guards=some []
theorem Room.mono{j k:Nat}{A:Around}(r:Room k A)(h:j<=k):Room j A:=⟨r.hd,by have:=r.dp;omega,by have:=r.un;omega,r.gd⟩
theorem Room.deeper{k:Nat}{A:Around}(r:Room (k+1) A)(env:Env):Room k (A.deeper env):=
 ⟨r.hd,by have:=r.dp;show A.depth+1+3 * k+5<_;omega,by have:=r.un;show A.units+3+16 * k+200<_;omega,r.gd⟩
theorem make_depth {A:Around} {C:Addr} {us:List Value} {kw:List (Str×Value)}:(A.under (.builtin "type.__call__" ⟨.ref C::us,kw⟩)).depth=A.depth+1:=by
 first | rfl | simp [Around.under,Code.weight,Code.isCreation,Code.isGuard,Code.isCaller,Code.frames,Code.isFrame,guardIds]
theorem make_units {A:Around} {C:Addr} {us:List Value} {kw:List (Str×Value)}:(A.under (.builtin "type.__call__" ⟨.ref C::us,kw⟩)).units=A.units+1:=by
 first | rfl | simp [Around.under,Code.cUnits,Code.frames,Code.isFrame]
theorem make_guards {A:Around} {C:Addr} {us:List Value} {kw:List (Str×Value)}:(A.under (.builtin "type.__call__" ⟨.ref C::us,kw⟩)).guards=A.guards:=by
 first | rfl | simp [Around.under,Code.guards,Code.isGuard,guardIds,pushGuards]
theorem Room.make {k:Nat} {A:Around} (r:Room (k+1) A) (C:Addr) (us:List Value) (kw:List (Str×Value)):Room k (A.under (.builtin "type.__call__" ⟨.ref C::us,kw⟩)):=
 ⟨r.hd,by have:=r.dp;rw [make_depth];omega,by have:=r.un;rw [make_units];omega,by rw [make_guards];exact r.gd⟩
theorem Room.depth{k:Nat}{A:Around}(r:Room k A):A.depth<recursionLimit:=by have:=r.dp;omega
theorem Room.units{k:Nat}{A:Around}(r:Room k A):A.units+64<cLine:=by have:=r.un;omega
def tNil:TA:=fun _ H Q=>Q [] H
def tCons(ta:TE)(tr:TA):TA:=fun σ H Q=>ta σ H fun x H1=>tr σ H1 fun xs H2=>Q (x::xs) H2
section
variable {X:Cx} {e:Expr} {es:List Expr} {te:TE} {t:TA} {pos:Pos}
theorem pa_nil:PA X [] tNil:=fun _ _ _ _ H Q I h=>Calls.spliced_nil ⟨[],H,I,.nil,h⟩
theorem pa_cons(ha:PE X e te)(hr:PA X es t)(hs:starEach (e::es) X.env=(false,eval e X.env)::starEach es X.env:=by rfl):PA X (e::es) (tCons te t):=by
 intro pos pins s σ H Q I h
 rw [hs]
 show wpAny _ _ (spliced ((false,eval e X.env)::backTo pos (starEach es X.env))) _ _ s
 refine Calls.spliced_cons (thn (ha pins s σ H _ I h) fun u s1 ⟨x,H1,I1,r1,q1⟩=>?_)
 exact thn (hr pos pins s1 σ H1 _ I1 q1) fun us s2 ⟨xs,H2,I2,r2,q2⟩=>⟨x::xs,H2,I2,.cons r1 r2,q2⟩
def tTup(t:TA):TE:=fun σ H Q=>t σ H fun xs H1=>xs.length<=sizeLine/\∀ p,H1 p=none->Q (.ref p) (upd H1 p (.tup xs))
def tLst(t:TA):TE:=fun σ H Q=>t σ H fun xs H1=>xs.length<=sizeLine/\∀ p,H1 p=none->Q (.ref p) (upd H1 p (.lst xs))
theorem pe_tup{x1}(h:PA X es t):PE X (.Tuple es x1 pos) (tTup t):=by
 intro pins s σ H Q I hq
 refine wpAny_Tuple_spliced (thn (h pos pins s σ H _ I hq) fun us s1 ⟨xs,H1,I1,r,z,q⟩=>⟨by rw [<-r.length];exact z,?_⟩)
 have hf:H1 s1.heap.objs.size=none:=I1.hok.fresh (Nat.le_refl _)
 refine⟨.ref s1.heap.objs.size,upd H1 s1.heap.objs.size (.tup xs),I1.laid (t':=s1.toks) (fun b u e=>Heap.get?_push_of_some _ e) (Nat.le_refl _) ?_,rfl,q _ hf⟩
 exact⟨z,us,r,⟨_,Heap.get?_push_size _ rfl,rfl,_,rfl⟩⟩
theorem pe_lst(h:PA X es t):PE X (.List es pos) (tLst t):=by
 intro pins s σ H Q I hq
 refine wpAny_List_spliced (thn (h pos pins s σ H _ I hq) fun us s1 ⟨xs,H1,I1,r,z,q⟩=>⟨by rw [<-r.length];exact z,?_⟩)
 have hf:H1 s1.heap.objs.size=none:=I1.hok.fresh (Nat.le_refl _)
 refine⟨.ref s1.heap.objs.size,upd H1 s1.heap.objs.size (.lst xs),I1.laid (t':=s1.toks) (fun b u e=>Heap.get?_push_of_some _ e) (Nat.le_refl _) ?_,rfl,q _ hf⟩
 exact⟨z,us,0,r,Heap.get?_push_size _ rfl⟩
end
abbrev Sp:=List V->Hp->VK->XK->Prop
abbrev CXT:=List Env->Hp->Shared->XK->Value->Shared->Prop
structure Env0 (P:Program) (w:World) (K:PySem.W.Frag) (mg:Str->Option Value) (base:Heap) (A:Around) (outer:List Env) (s:Shared) (H:Hp):Prop where
 frames:A.frames=some outer
 mod:Mod K mg base
 bs:∀ b o,base.get? b=some o->s.heap.get? b=some o/\H b=none
 bsz:base.objs.size<=s.heap.objs.size
 funs:s.heap.FunFrames base outer
 frf:∀ b∈frs outer,H b=none
 hok:HOk P w H s.heap
 bare:AllBare s.gens
def CE(outer:List Env)(P:Program)(w:World)(H:Hp)(s:Shared)(Q:VK)(u:Value)(s':Shared):Prop:=
 ∃ v H',s'.os=s.os/\AllBare s'.gens/\Un (frs outer) [] H H' s.heap s'.heap/\HOk P w H' s'.heap/\RelV v u/\Q v H'
def CR(CX:CXT)(outer:List Env)(P:Program)(w:World)(H:Hp)(s:Shared)(Q:VK)(E:XK)(r:Result)(s':Shared):Prop:=
 match r with
 | .ok (.ret u)=>CE outer P w H s Q u s'
 | .ok _=>False
 | .error e=>CX outer H s E e s'
structure FnOk (P:Program) (w:World) (K:PySem.W.Frag) (mg:Str->Option Value) (base:Heap) (CX:CXT) (k:Nat) (f:Addr) (fd:FuncData) (ps:List Str) (sp:Sp):Prop where
 len:∀ vs H Q E,sp vs H Q E->vs.length=ps.length
 run:∀ (A:Around) (outer:List Env) (s:Shared) (H:Hp) (args:Args) (us:List Value) (vs:List V) (Q:VK) (E:XK),Room k A->Env0 P w K mg base A outer s H->BindsTo s fd args (ps.zip us)->Vals vs us->sp vs H Q E →
  codeAny (model P w) A (.call (.ref f) args) (CR CX outer P w H s Q E) s
theorem Env0.make{P:Program}{w:World}{K:PySem.W.Frag}{mg:Str->Option Value}{base:Heap}{A:Around}{outer:List Env}{s:Shared}{H:Hp}(e:Env0 P w K mg base A outer s H)(C:Addr)(us:List Value)(kw:List (Str×Value)):
  Env0 P w K mg base (A.under (.builtin "type.__call__" ⟨.ref C::us,kw⟩)) outer s H:=⟨by first | exact e.frames | (simpa [Around.under,Code.envs,Code.isFrame,pushEnvs] using e.frames),e.mod,e.bs,e.bsz,e.funs,e.frf,e.hok,e.bare⟩
section
variable {X:Cx} {pins:List (Addr×Obj)} {σ:St} {H:Hp} {s s':Shared}
theorem Inv.env0(I:Inv X pins σ H s):Env0 X.prog X.w X.K X.mg X.base X.A X.stack s H:=
 ⟨I.ok.frames,I.ok.mod,I.bs,Nat.le_trans I.ok.bsz I.sz,I.stack,I.stkFree,I.hok,I.bare⟩
theorem Inv.after{Q:VK}{u:Value}(I:Inv X pins σ H s)(h:CE X.stack X.prog X.w H s Q u s'):EP X pins σ Q u s':=by
 obtain⟨v,H',os,bare,un,hok,r,q⟩:=h
 obtain⟨hh,g,d,t,os'⟩:=s'
 obtain rfl:os'=s.os:=os
 exact⟨v,H',I.call (h':=hh) (g':=g) (d':=d) (t':=t) (ch:=[]) un hok bare (fun b z=>absurd z (by simp)),r,q⟩
end
def tCall(sp:Sp)(dvs:List V)(E:XK)(t:TA):TE:=fun σ H Q=>t σ H fun vs H1=>sp (vs++dvs) H1 Q E
def Binds(K:PySem.W.Frag)(fd:FuncData)(ps:List Str)(ds:List Value):Prop:=
 ∀ (s:Shared) (us:List Value),K.In s.heap->(us++ds).length=ps.length->BindsTo s fd ⟨us,[]⟩ (ps.zip (us++ds))
theorem Binds.all{K:PySem.W.Frag}{fd:FuncData}{ps:List Str}(h:∀ us:List Value,us.length=ps.length->bindArgs fd ⟨us,[]⟩=pure (ps.zip us)):Binds K fd ps []:=fun s us _ hl=>by
 rw [List.append_nil] at hl ⊢
 exact .of_eq (h us hl)
def Passes(CX:CXT)(X:Cx)(E:XK):Prop:=∀ (pins:List (Addr×Obj)) (σ:St) (H:Hp) (s:Shared) (e:Value) (s':Shared),Inv X pins σ H s->CX X.stack H s E e s'->X.xe e s'
section
variable {X:Cx} {CX:CXT} {k:Nat} {f C:Addr} {fd:FuncData} {ps:List Str} {sp:Sp} {dvs:List V} {ds:List Value} {E:XK} {x m:Str} {p pos apos:Pos} {e o:Expr} {es:List Expr} {ta:TE} {t:TA}
theorem run_fn{pins:List (Addr×Obj)}{σ:St}{H:Hp}{s:Shared}{Q:VK}{us:List Value}{vs:List V}(F:FnOk X.prog X.w X.K X.mg X.base CX k f fd ps sp)(hr:Room k X.A)(hb:Binds X.K fd ps ds)(hd:Vals dvs ds)(hx:Passes CX X E)
  (I:Inv X pins σ H s) (r:Vals vs us) (h:sp (vs++dvs) H Q E):wpAny (model X.prog X.w) X.A (call (.ref f) us) (EP X pins σ Q) X.xe s:=by
 have r2:Vals (vs++dvs) (us++ds):=r.append hd
 have hl:(us++ds).length=ps.length:=by rw [<-r2.length];exact F.len _ _ _ _ h
 refine wpAny_call (codeAny_mono (F.run X.A X.stack s H ⟨us,[]⟩ (us++ds) (vs++dvs) Q E hr I.env0 (hb s us I.kIn hl) r2 h) fun r s' hq=>?_)
 cases r with
 | error e=>exact hx pins σ H s e s' I hq
 | ok fl=>
  cases fl with
  | ret u=>exact I.after hq
  | next=>exact False.elim hq
  | brk=>exact False.elim hq
  | cont=>exact False.elim hq
theorem pe_call(F:FnOk X.prog X.w X.K X.mg X.base CX k f fd ps sp)(hr:Room k X.A)(hg:Gl X x)(hm:X.mg x=some (.ref f))(hk:PySem.W.keepIn X.K (.ref f)=true)(hb:Binds X.K fd ps ds)(hd:Vals dvs ds)(hx:Passes CX X E)
  (ha:PA X (e::es) t) (hdb:(x==("__debug__":Str))=false:=by decide) (he:starEach (e::es) X.env=(false,eval e X.env)::starEach es X.env:=by rfl) (hpl:(backTo pos (starEach es X.env)).any (·.1)=false:=by rfl) :
  PE X (.Call (.Name x p) (e::es) [] pos) (tCall sp dvs E t):=by
 intro pins s σ H Q I h
 refine wpAny_Call_Name_kw (ld_glob I hg hm ?_ hdb)
 refine PySem.W.callWith_K (h₀:=X.base) I.ok.mod.kin hk (thn (ha pos pins s σ H _ I h) fun us s1 ⟨vs,H1,I1,r,q⟩=>⟨I1.kIn,?_⟩) he hpl
 exact run_fn F hr hb hd hx I1 r q
end
structure FnScope (N P:List Str) (sc:Scope):Prop where
 kind:sc.kind=.function
 co:sc.isCoroutine=false
 gen:sc.isGenerator=false
 nd:N.Nodup
 pre:N.take P.length=P
 par:∀ x∈P,sc.names.lookup x=some .local\/sc.names.lookup x=some .cell
 nofree:∀ y∈sc.names,y.2≠.free
theorem bindL_out{kindOf:Str->Option NameKind}{x:Str}:∀ {binds:List (Str×Value)} {m:Str->Option Value},(∀ v,(x,v)∉binds)->bindL kindOf binds m x=m x
 | [],_,_=>rfl
 | (n,v)::r,m,h=>by
  unfold bindL
  rw [bindL_out fun w hw=>h w (List.mem_cons_of_mem _ hw)]
  split
  ·have:x≠n:=by rintro rfl;exact h v List.mem_cons_self
   simp [this]
  ·rfl
theorem bindC_out{kindOf:Str->Option NameKind}{x:Str}:∀ {binds:List (Str×Value)} {m:Str->Option Value},(∀ v,(x,v)∉binds)->bindC kindOf binds m x=m x
 | [],_,_=>rfl
 | (n,v)::r,m,h=>by
  unfold bindC
  rw [bindC_out fun w hw=>h w (List.mem_cons_of_mem _ hw)]
  split
  ·rfl
  ·have:x≠n:=by rintro rfl;exact h v List.mem_cons_self
   simp [this]
theorem bindL_get{kindOf:Str->Option NameKind}{x:Str}{v:Value}:∀ {P:List Str} {vs:List Value} {i:Nat} {m:Str->Option Value},P.Nodup->P[i]? = some x->vs[i]? = some v->kindOf x=some .local →
  bindL kindOf (P.zip vs) m x=some v
 | [],_,_,_,_,h,_,_=>by simp at h
 | _::_,[],_,_,_,_,h,_=>by simp at h
 | p::P,w::vs,0,m,nd,h1,h2,hk=>by
  simp at h1 h2;subst h1;subst h2
  show bindL kindOf ((p,w)::P.zip vs) m p=_
  unfold bindL
  rw [bindL_out fun v hv=>(List.nodup_cons.mp nd).1 (List.of_mem_zip hv).1,if_pos hk]
  simp
 | p::P,w::vs,i+1,m,nd,h1,h2,hk=>by
  show bindL kindOf ((p,w)::P.zip vs) m x=_
  unfold bindL
  exact bindL_get (i:=i) (List.nodup_cons.mp nd).2 (by simpa using h1) (by simpa using h2) hk
theorem bindC_get{kindOf:Str->Option NameKind}{x:Str}{v:Value}:∀ {P:List Str} {vs:List Value} {i:Nat} {m:Str->Option Value},P.Nodup->P[i]? = some x->vs[i]? = some v->kindOf x≠some .local →
  bindC kindOf (P.zip vs) m x=some v
 | [],_,_,_,_,h,_,_=>by simp at h
 | _::_,[],_,_,_,_,h,_=>by simp at h
 | p::P,w::vs,0,m,nd,h1,h2,hk=>by
  simp at h1 h2;subst h1;subst h2
  show bindC kindOf ((p,w)::P.zip vs) m p=_
  unfold bindC
  rw [bindC_out fun v hv=>(List.nodup_cons.mp nd).1 (List.of_mem_zip hv).1,if_neg hk]
  simp
 | p::P,w::vs,i+1,m,nd,h1,h2,hk=>by
  show bindC kindOf ((p,w)::P.zip vs) m x=_
  unfold bindC
  exact bindC_get (i:=i) (List.nodup_cons.mp nd).2 (by simpa using h1) (by simpa using h2) hk
def start(N:List Str)(vs:List V):St:=vs.map some++List.replicate (N.length - vs.length) none
def cxOf(CX:CXT)(P:Program)(w:World)(K:PySem.W.Frag)(mg:Str->Option Value)(base:Heap)(N:List Str)(qual:Str)(scope:Scope)(f:Addr)(cd:Value)(A:Around)(outer:List Env)(s:Shared)(H:Hp)(E:XK):Cx where
 prog:=P
 w:=w
 K:=K
 mg:=mg
 base:=base
 A:=A.deeper (envOfC qual scope s.heap.objs.size f cd)
 N:=N
 s₀:=s
 H₀:=H
 env:=envOfC qual scope s.heap.objs.size f cd
 outer:=outer
 stack:=envOfC qual scope s.heap.objs.size f cd::outer
 ex:=[]
 calm:=true
 fn:=fun _=>true
 pn:=[]
 xe:=fun e s'=>wpAny (model P w) (A.deeper (envOfC qual scope s.heap.objs.size f cd)) (leaving (envOfC qual scope s.heap.objs.size f cd) e) (fun _ s''=>CX outer H s E e s'') (fun e' s''=>CX outer H s E e' s'') s'
theorem cell_has{sc:Scope}{n:Nat}{x:Str}(h:sc.names.lookup x=some .cell):∃ c,(cellsFrom n sc.names []).lookup x=some c:=by
 have q:=PySem.W.cellsFrom_some sc.names n [] (.inl h)
 exact Option.isSome_iff_exists.mp q
theorem inv_start{CX:CXT}{P:Program}{w:World}{K:PySem.W.Frag}{mg:Str->Option Value}{base:Heap}{N ps:List Str}{qual:Str}{scope:Scope}{f:Addr}{cd:Value}{A:Around}{outer:List Env}{s s1:Shared}{H:Hp}{E:XK}{us:List Value}{vs:List V}
  (S:FnScope N ps scope) (hd:A.handled=none) (e0:Env0 P w K mg base A outer s H) (hl:vs.length=ps.length) (r:Vals vs us)
  (x:InCallC s s.heap.objs.size (bindL (envOfC qual scope s.heap.objs.size f cd).kindOf (ps.zip us) fun _=>none) (cellsFrom (s.heap.objs.size+1) scope.names []) (bindC (envOfC qual scope s.heap.objs.size f cd).kindOf (ps.zip us) fun _=>none) s1) :
  Inv (cxOf CX P w K mg base N qual scope f cd A outer s H E) [] (start N vs) H s1:=by
 have hpl:ps.length<=N.length:=by have:=congrArg List.length S.pre;rw [List.length_take] at this;omega
 obtain⟨h1,tk,rfl,hk⟩:=x.done
 have noA:∀ b:Addr,b∉(cxOf CX P w K mg base N qual scope f cd A outer s H E).ex:=fun b z=>absurd (show b∈([]:List Addr) from z) (by simp)
 refine⟨⟨e0.mod,S.kind,rfl,rfl,Nat.le_refl _,fun y z c h1 h2=>?_,fun y hy=>?_,fun y c _ h=>?_,fun _=>hd,Around.frames_deeper e0.frames,.inr ⟨rfl,rfl⟩,fun b z=>absurd z (noA b),e0.bs,e0.bsz,fun b _ _=>noA b,fun b z=>absurd z (noA b),e0.funs,e0.frf⟩,
  rfl,e0.bare,Un.kept hk,⟨_,x.toInCall.ns,fun i y v h1 h2 h3=>?_⟩,fun y c h=>⟨_,x.cell y c h⟩,e0.hok.fresh (Nat.le_refl _),fun y c h=>?_,fun p hp=>absurd (show p∈([]:List (Addr×Obj)) from hp) (by simp),e0.hok.kept hk,?_⟩
 ·exact name_of_addr x.apart (PySem.mem_of_lookup h1) (PySem.mem_of_lookup h2)
 ·have hy:scope.names.lookup y=some .cell\/scope.names.lookup y=some .free:=hy
  rcases hy with hy | hy
  ·exact cell_has hy
  ·exact absurd rfl (S.nofree _ (PySem.mem_of_lookup hy))
 ·exact Nat.le_of_lt (x.above y c (PySem.mem_of_lookup h))
 ·have hi:i<vs.length:=by
   unfold start at h2
   by_cases hi:i<vs.length
   ·exact hi
   ·rw [List.getElem?_append_right (by simpa using hi)] at h2
    rw [List.getElem?_replicate] at h2
    split at h2<;>cases h2
  have ha:vs[i]? = some v:=by
   unfold start at h2
   rw [List.getElem?_append_left (by simpa using hi),List.getElem?_map] at h2
   cases e:vs[i]? with
   | none=>rw [e] at h2;cases h2
   | some a=>rw [e] at h2;cases h2;rfl
  obtain⟨u,hu,rv⟩:=r.get ha
  have hp:ps[i]? = some y:=by
   rw [<-S.pre,List.getElem?_take_of_lt (by omega)];exact h1
  have ndP:ps.Nodup:=by rw [<-S.pre];exact S.nd.sublist (List.take_sublist _ _)
  refine⟨u,rv,?_⟩
  rcases S.par y (List.mem_of_getElem? hp) with k | k
  ·exact .inl ⟨k,bindL_get ndP hp hu k⟩
  ·obtain⟨c,e⟩:=cell_has (n:=s.heap.objs.size+1) k
   refine .inr ⟨.inl k,c,e,?_⟩
   have q:=x.cell y c e
   rw [bindC_get ndP hp hu (by show scope.names.lookup y≠_;rw [k];decide)] at q
   exact q
 ·exact e0.hok.fresh (Nat.le_of_lt (x.above y c (PySem.mem_of_lookup h)))
 ·unfold start
  show _=N.length
  rw [List.length_append,List.length_map,List.length_replicate]
  omega
theorem fn_of{CX:CXT}{P:Program}{w:World}{K:PySem.W.Frag}{mg:Str->Option Value}{base:Heap}{k:Nat}{f:Addr}{name qual:Str}{params:Arguments}{body:List Stmt}{scope:Scope}{dV kV doc pm cdv ct oc:Value}{an od:Option Addr}
  {osl:Array (Option Value)} {N ps:List Str} {sp:Sp} (lk:K.lookup f=some ⟨oc,od,.func (PySem.W.fnOf name qual params body scope dV kV doc pm an cdv ct),osl⟩) (hcd:PySem.W.codeIn K cdv qual=true) (S:FnScope N ps scope)
  (len:∀ vs H Q E,sp vs H Q E->vs.length=ps.length)
  (hbody:∀ (A:Around) (outer:List Env) (s:Shared) (H:Hp) (vs:List V) (Q:VK) (E:XK),Room k (A.deeper (envOfC qual scope s.heap.objs.size f cdv))->sp vs H Q E →
   ∃ t,PSs (cxOf CX P w K mg base N qual scope f cdv A outer s H E) body t/\t { nx:=fun _ H'=>Q .non H',rt:=Q } (start N vs) H) :
  FnOk P w K mg base CX (k+1) f (PySem.W.fnOf name qual params body scope dV kV doc pm an cdv ct) ps sp:=by
 refine⟨len,fun A outer s H args us vs Q E hr e0 hb r hsp=>?_⟩
 have hl:=len _ _ _ _ hsp
 have KX:K.In s.heap:=e0.mod.kin.keeps fun b o e=>(e0.bs b o e).1
 have lim:s.heap.NoLimit:=e0.mod.nolimit.keeps fun b o e=>(e0.bs b o e).1
 have hkind:∀ y∈ps.zip us,scope.names.lookup y.1=some .local\/(scope.names.lookup y.1=some .cell/\((cellsFrom (s.heap.objs.size+1) scope.names []).lookup y.1).isSome=true):=fun ⟨n,v⟩ hy=>by
  rcases S.par n (List.of_mem_zip hy).1 with q | q
  ·exact .inl q
  ·exact .inr ⟨q,PySem.W.cellsFrom_some _ _ _ (.inl q)⟩
 refine codeAny_call_function hr.depth (KX _ _ lk) rfl S.co S.gen rfl (PySem.W.codeRec_of KX hcd) (hb _ _ _ _ ?_)
 refine wpAny_newFunctionEnv_cells S.kind hkind fun env he s1 x=>?_
 subst he
 refine⟨lim.keeps x.toInCall.keep,codeAny_func ?_⟩
 obtain⟨t,ht,hq⟩:=hbody A outer s H vs Q E (hr.deeper _) hsp
 have I:Inv (cxOf CX P w K mg base N qual scope f cdv A outer s H E) [] (start N vs) H s1:=inv_start S hr.hd e0 hl r x
 refine wpAny_mono (ht [] s1 (start N vs) H _ I hq) (fun fl s' hs=>?_) fun e s' hs=>hs
 have fin:∀ {σ':St} {H':Hp} {v:V} {u:Value},Inv (cxOf CX P w K mg base N qual scope f cdv A outer s H E) [] σ' H' s'->RelV v u->Q v H'->CE outer P w H s Q u s':=
  fun {σ' H' v u} J rv q=>⟨v,H',J.os,J.bare,J.base,J.hok,rv,q⟩
 cases fl with
 | ret u=>
  obtain⟨v,σ',H',J,rv,q⟩:=hs
  exact fin J rv q
 | next=>
  obtain⟨σ',H',J,q⟩:=hs
  exact fin (v:=V.non) (u:=Value.none) J rfl q
 | brk=>
  obtain⟨_,_,_,q⟩:=hs
  exact False.elim q
 | cont=>
  obtain⟨_,_,_,q⟩:=hs
  exact False.elim q
end L2
namespace L2
open PySem PySem.Spec PyProof.Rows
section
variable {X:Cx} {x:Str} {p pos:Pos} {e:Expr} {es:List Expr} {t:TA} {id T:String} {r:List V->Hp->VK->Prop}
def tCB(r:List V->Hp->VK->Prop)(t:TA):TE:=fun σ H Q=>t σ H fun vs H1=>r vs H1 Q
theorem pe_callB (hc:CallR X (.builtin id) r) (hg:Gl X x) (hm:X.mg x=none) (hv:bootBuiltins x=some (.builtin id)) (ha:PA X (e::es) t) (hn:x≠"__name__":=by decide) (hdb:(x==("__debug__":Str))=false:=by decide)
  (he:starEach (e::es) X.env=(false,eval e X.env)::starEach es X.env:=by rfl) (hpl:(backTo pos (starEach es X.env)).any (·.1)=false:=by rfl):PE X (.Call (.Name x p) (e::es) [] pos) (tCB r t):=by
 intro pins s σ H Q I h
 refine wpAny_Call_Name_kw (ld_blt I hg hm hv ?_ hn hdb)
 exact PyProof.Rows.callWith_builtin1 (thn (ha pos pins s σ H _ I h) fun us s1 ⟨vs,H1,I1,r1,q1⟩=>hc pins s1 σ H1 vs us Q I1 r1 q1) he hpl
theorem pe_callTy (hc:CallR X (.type T) r) (hg:Gl X x) (hm:X.mg x=none) (hv:bootBuiltins x=some (.type T)) (ha:PA X (e::es) t) (hn:x≠"__name__":=by decide) (hdb:(x==("__debug__":Str))=false:=by decide)
  (he:starEach (e::es) X.env=(false,eval e X.env)::starEach es X.env:=by rfl) (hpl:(backTo pos (starEach es X.env)).any (·.1)=false:=by rfl):PE X (.Call (.Name x p) (e::es) [] pos) (tCB r t):=by
 intro pins s σ H Q I h
 refine wpAny_Call_Name_kw (ld_blt I hg hm hv ?_ hn hdb)
 exact PyProof.Rows.callWith_type1 (thn (ha pos pins s σ H _ I h) fun us s1 ⟨vs,H1,I1,r1,q1⟩=>hc pins s1 σ H1 vs us Q I1 r1 q1) he hpl
end
end L2
namespace HT
open PySem PyProof.Rows
section
open PySem.SeqAt
open PySem.AutoSeq1 (wpAny_loadPart')
open PySem.MeetsSeq PySem.MeetsSeq2 PySem.MeetsSeq3
end
section
variable {prog:Program} {w:World} {A:Around} {E:Value->Shared->Prop} {s:Shared}
def sIx(n d:Nat):Option Int->Nat
 | none=>d
 | some v=>if v<0 then (v+(n:Int)).toNat else min v.toNat n
end
end HT
namespace L2
open PySem PySem.Spec PyProof.Rows
abbrev TO:=St->Hp->(Option Int->Hp->Prop)->Prop
def PO(X:Cx)(e:Option Expr)(t:TO):Prop:=
 ∀ (pins:List (Addr×Obj)) (s:Shared) (σ:St) (H:Hp) (Q:Option Int->Hp->Prop),Inv X pins σ H s->t σ H Q →
  wpAny (model X.prog X.w) X.A (evalPart e X.env) (fun u s'=>∃ o H',Inv X pins σ H' s'/\IsPart u o/\Q o H') X.xe s
def tNoPart:TO:=fun _ H Q=>Q none H
def tPart(t:TE):TO:=fun σ H Q=>t σ H fun x H1=>∃ i,x=.int i/\Q (some i) H1
section
variable {X:Cx} {e:Expr} {te:TE} {lo hi:Option Expr} {tl th:TO} {pos p2:Pos}
theorem po_some(h:PE X e te):PO X (some e) (tPart te):=by
 intro pins s σ H Q I hw
 rw [evalPart_some]
 refine thn (h pins s σ H _ I hw) fun u s1 ⟨x,H1,I1,r1,q1⟩=>?_
 obtain⟨i,rfl,q⟩:=q1
 obtain⟨t,rfl⟩:=r1
 exact⟨some i,H1,I1,.int i t,q⟩
def SlR(X:Cx)(r:V->Option Int->Option Int->Hp->VK->Prop):Prop:=
 ∀ (pins:List (Addr×Obj)) (s:Shared) (σ:St) (H:Hp) (x:V) (v vl vu:Value) (lo hi:Option Int) (sl:Addr) (Q:VK),Inv X pins σ H s->RelV x v->s.heap.IsSliceOf sl vl vu .none->IsPart vl lo->IsPart vu hi->r x lo hi H Q →
  ∃ T id,typeLookup (.type T) "__getitem__"=pure (some (.builtin id))/\s.TypeIs v T/\wpAny (model X.prog X.w) X.A (getItem v (.ref sl)) (EP X pins σ Q) X.xe s
def tSl(r:V->Option Int->Option Int->Hp->VK->Prop)(te:TE)(tl th:TO):TE:=fun σ H Q=>te σ H fun x H1=>tl σ H1 fun l H2=>th σ H2 fun u H3=>r x l u H3 Q
theorem pe_slice{r:V->Option Int->Option Int->Hp->VK->Prop}(hr:SlR X r)(he:PE X e te)(hl:PO X lo tl)(hu:PO X hi th):PE X (.Subscript e (.Slice lo hi none p2) pos) (tSl r te tl th):=by
 intro pins s σ H Q I h
 refine Subscript_ (thn (he pins s σ H _ I h) fun v s1 ⟨x,H1,I1,r1,q1⟩=>?_)
 refine wpAny_Slice (thn (hl pins s1 σ H1 _ I1 q1) fun vl s2 ⟨l,H2,I2,pl,q2⟩=>thn (hu pins s2 σ H2 _ I2 q2) fun vu s3 ⟨u,H3,I3,pu,q3⟩=>?_)
 rw [evalPart_none]
 refine wpAny_pure ?_
 have I4:Inv X pins σ H3 { s3 with heap:=s3.heap.push { cls:=.type "slice",data:=.fields #[vl,vu,.none] } }:=I3.kept (t':=s3.toks) fun b ob q=>Heap.get?_push_of_some _ q
 obtain⟨T,id,hT,ht,hg⟩:=hr pins { s3 with heap:=s3.heap.push { cls:=.type "slice",data:=.fields #[vl,vu,.none] } } σ H3 x v vl vu l u s3.heap.objs.size Q I4 r1 (Heap.IsSliceOf.new ..) pl pu q3
 show wpAny (model X.prog X.w) X.A (subscriptTail e (.Slice lo hi none p2) v (.ref s3.heap.objs.size)) (EP X pins σ Q) X.xe { s3 with heap:=s3.heap.push { cls:=.type "slice",data:=.fields #[vl,vu,.none] } }
 exact tail_any (ops:=[.ref s3.heap.objs.size,v]) ht hT hg (by with_unfolding_all rfl)
def cutV(xs:List V)(lo hi:Option Int):List V:=(xs.drop (HT.sIx xs.length 0 lo)).take (HT.sIx xs.length xs.length hi - HT.sIx xs.length 0 lo)
theorem cutV_length(xs:List V)(lo hi:Option Int):(cutV xs lo hi).length<=xs.length:=by
 unfold cutV
 rw [List.length_take,List.length_drop]
 omega
end
end L2
namespace L2
open PySem PySem.Spec PyProof.Rows
def ixN(n:Nat)(i:Int):Option Nat:=if 0<=i then (if i<n then some i.toNat else none) else if -(n:Int)<=i then some (i+n).toNat else none
def atI{α:Type}(xs:List α)(i:Int):Option α:=(ixN xs.length i).bind fun j=>xs[j]?
theorem ixN_seq{n:Nat}{i:Int}{j:Nat}(h:ixN n i=some j):seqIndex? i n=some j/\j<n/\-(n:Int)<=i/\i<n:=by
 unfold ixN at h
 by_cases h0:0<=i
 ·rw [if_pos h0] at h
  by_cases h1:i<n
  ·rw [if_pos h1] at h
   have e:i.toNat=j:=Option.some.inj h
   exact⟨by rw [seqIndex_of h0 h1,e],by omega,by omega,h1⟩
  ·rw [if_neg h1] at h;cases h
 ·rw [if_neg h0] at h
  by_cases h1:-(n:Int)<=i
  ·rw [if_pos h1] at h
   have e:(i+n).toNat=j:=Option.some.inj h
   exact⟨by rw [seqIndex_neg (by omega) h1,e],by omega,h1,by omega⟩
  ·rw [if_neg h1] at h;cases h
theorem atI_get{α:Type}{xs:List α}{i:Int}{v:α}(h:atI xs i=some v):∃ j,seqIndex? i xs.length=some j/\xs[j]? = some v/\j<xs.length/\-(xs.length:Int)<=i/\i<xs.length:=by
 unfold atI at h
 cases e:ixN xs.length i with
 | none=>rw [e] at h;cases h
 | some j=>
  rw [e] at h
  obtain⟨h1,h2,h3,h4⟩:=ixN_seq e
  exact⟨j,h1,h,h2,h3,h4⟩
theorem atI_nat{α:Type}{xs:List α}{j:Nat}{v:α}(h:xs[j]? = some v):atI xs (j:Int)=some v:=by
 have hj:j<xs.length:=(List.getElem?_eq_some_iff.mp h).1
 have e:ixN xs.length (j:Int)=some j:=by
  unfold ixN
  rw [if_pos (by omega),if_pos (by omega)];simp
 unfold atI;rw [e];exact h
def PlainIx(b:Expr):Prop:=∀ o i,subscripted b false o i=operate [o,i] (getItem o i)
def IxR(X:Cx)(r:R2):Prop:=
 ∀ (value slice:Expr) (pins:List (Addr×Obj)) (s:Shared) (σ:St) (H:Hp) (x y:V) (v u:Value) (Q:VK),Inv X pins σ H s->RelV x v->RelV y u->r x y H Q →
  subscripted slice false v u=operate [v,u] (getItem v u)->wpAny (model X.prog X.w) X.A (subscriptTail value slice v u) (EP X pins σ Q) X.xe s
def MtR(X:Cx)(id:String)(r:V->List V->Hp->VK->Prop):Prop:=
 ∀ (pins:List (Addr×Obj)) (s:Shared) (σ:St) (H:Hp) (x:V) (xs:List V) (v:Value) (us:List Value) (Q:VK),Inv X pins σ H s->RelV x v->Vals xs us->r x xs H Q →
  wpAny (model X.prog X.w) X.A (call (.builtin id) (v::us)) (EP X pins σ Q) X.xe s
section
variable {X:Cx} {a b:Expr} {ta tb:TE} {pos:Pos}
theorem pe_ix{r:R2}(hr:IxR X r)(ha:PE X a ta)(hb:PE X b tb)(hs:PlainIx b):PE X (.Subscript a b pos) (tOp r ta tb):=by
 intro pins s σ H Q I h
 exact Subscript_ (binT ha hb I h fun v u s2 x y H2 I2 rx ry q=>hr a b pins s2 σ H2 x y v u Q I2 rx ry q (hs _ _))
def rIxL(K:PySem.W.Frag):R2:=fun x y H Q=>∃ p xs i v,x=.ref p/\y=.int i/\SqL K H p xs/\atI xs i=some v/\Q v H
def rIxT(K:PySem.W.Frag):R2:=fun x y H Q=>∃ p xs i v,x=.ref p/\y=.int i/\SqT K H p xs/\atI xs i=some v/\Q v H
def rIxS:R2:=fun x y H Q=>∃ z i c,x=.str z/\y=.int i/\z.length<=sizeLine/\atI z.cps.toList i=some c/\Q (.str ⟨#[c]⟩) H
theorem ix_list:IxR X (rIxL X.K):=by
 intro value slice pins s σ H x y v u Q I rx ry h hs
 obtain⟨p,xs,i,z,rfl,rfl,hq,he,q⟩:=h
 cases rx
 obtain⟨t,rfl⟩:=ry
 obtain⟨its,r,pl,hz⟩:=I.list hq
 obtain⟨j,h1,h2,h3,h4,h5⟩:=atI_get he
 obtain⟨w,ew,rw'⟩:=r.get h2
 have hl:=r.length
 have hn:=line63
 have fin:EP X pins σ Q w s:=⟨z,H,I,rw',q⟩
 by_cases h0:0<=i
 ·have hj:i.toNat=j:=by
   rw [seqIndex_of h0 h5] at h1
   exact Option.some.inj h1
  exact item_listR pl.isList h0 (by omega) (by rw [hj];simpa using ew) fin hs
 ·have hj:(i+(its.toArray.size:Int)).toNat=j:=by
   rw [seqIndex_neg (by omega) h4] at h1
   rw [List.size_toArray,<-hl]
   exact Option.some.inj h1
  exact subscriptTail_builtinR (x:=w) pl.isList.typeIs slot_list_getitem.lookup
   (wpAny_getItem_list_neg (Q:=fun r s'=>r=w/\EP X pins σ Q r s') pl.isList (by omega) (by rw [List.size_toArray]<;>omega) (by omega) (by rw [hj];simpa using ew) ⟨rfl,fin⟩) hs
theorem ix_tup:IxR X (rIxT X.K):=by
 intro value slice pins s σ H x y v u Q I rx ry h hs
 obtain⟨p,xs,i,z,rfl,rfl,hq,he,q⟩:=h
 cases rx
 obtain⟨t,rfl⟩:=ry
 obtain⟨its,r,pl,hz⟩:=I.tuple hq
 obtain⟨j,h1,h2,h3,h4,h5⟩:=atI_get he
 obtain⟨w,ew,rw'⟩:=r.get h2
 have hl:=r.length
 have hn:=line63
 have fin:EP X pins σ Q w s:=⟨z,H,I,rw',q⟩
 exact subscriptTail_builtinR (x:=w) pl.typeIs slot_tuple_getitem.lookup
  (getItem_tuple (j:=j) (Q:=fun r s'=>r=w/\EP X pins σ Q r s') pl (by omega) (by omega) (by rw [List.size_toArray,<-hl];exact h1) (by simpa using ew) ⟨rfl,fin⟩) hs
theorem mapSeq_set (its:List Value) (n j:Nat) (u:Value):Obj.mapSeq (·.setIfInBounds j u) { cls:=.type "list",data:=.seq its.toArray n }={ cls:=.type "list",data:=.seq (its.set j u).toArray n }:=by
 simp [Obj.mapSeq]
theorem Inv.lst{pins:List (Addr×Obj)}{σ:St}{H:Hp}{s:Shared}{p:Addr}{xs:List V}(I:Inv X pins σ H s)(h:H p=some (.lst xs)):
  ∃ (its:List Value) (n:Nat),Vals xs its/\s.heap.get? p=some { cls:=.type "list",data:=.seq its.toArray n }/\xs.length<=sizeLine:=by
 obtain⟨z,its,n,r,e⟩:=I.hok p _ h
 exact⟨its,n,r,e,z⟩
theorem Inv.lstUpd{pins:List (Addr×Obj)}{σ:St}{H:Hp}{s:Shared}{p:Addr}{xs ys:List V}{its its':List Value}{n n':Nat}{f:Obj->Obj}(I:Inv X pins σ H s)(h:H p=some (.lst xs))
  (ho:s.heap.get? p=some { cls:=.type "list",data:=.seq its.toArray n }) (hf:f { cls:=.type "list",data:=.seq its.toArray n }={ cls:=.type "list",data:=.seq its'.toArray n' }) (r:Vals ys its') (hz:ys.length<=sizeLine) (t:Nat) :
  Inv X pins σ (upd H p (.lst ys)) { s with heap:=s.heap.update p f,toks:=t }:=by
 have e:(s.heap.update p f).get? p=some { cls:=.type "list",data:=.seq its'.toArray n' }:=by
  rw [Heap.get?_update_self f ho (by rw [hf]<;>rfl),hf]
 refine I.write (x:=p) (e:=p) (by rw [h];trivial) (.inl rfl) (fun b u hb q=>(Heap.get?_update_other _ _ (Ne.symm hb)).trans q) ⟨_,e⟩ ?_
 exact⟨hz,its',n',r,e⟩
def rSetL:V->V->V->Hp->(Hp->Prop)->Prop:=fun o i v H Q=>∃ p xs k j,o=.ref p/\i=.int k/\H p=some (.lst xs)/\ixN xs.length k=some j/\Q (upd H p (.lst (xs.set j v)))
theorem set_list:PSet X rSetL:=by
 intro pins s σ H o i v ov iv u Q I ro ri rv h
 obtain⟨p,xs,k,j,rfl,rfl,hp,hj,q⟩:=h
 cases ro
 obtain⟨t,rfl⟩:=ri
 obtain⟨its,n,r,ho,hz⟩:=I.lst hp
 obtain⟨h1,h2,h3,h4⟩:=ixN_seq hj
 have hl:=r.length
 have hn:=line63
 have I':Inv X pins σ (upd H p (.lst (xs.set j v))) { s with heap:=s.heap.update p (Obj.mapSeq (·.setIfInBounds j u)) }:=
  I.lstUpd hp ho (mapSeq_set its n j u) (r.set rv j) (by rw [List.length_set];exact hz) s.toks
 by_cases h0:0<=k
 ·have hk:k.toNat=j:=by
   rw [seqIndex_of h0 h4] at h1
   exact Option.some.inj h1
  exact PySem.W.ki_setAt ho h0 (by omega) (by rw [List.size_toArray,<-hl];exact h4) (by rw [hk];exact⟨_,I',q⟩)
 ·have hk:(k+(its.toArray.size:Int)).toNat=j:=by
   rw [seqIndex_neg (by omega) h3] at h1
   rw [List.size_toArray,<-hl]
   exact Option.some.inj h1
  exact PySem.W.ki_setBack ho (by omega) (by rw [List.size_toArray,<-hl];exact h3) (by omega) (by rw [hk];exact⟨_,I',q⟩)
theorem slice_bounds(lo hi:Option Int)(n:Nat):(sliceBounds lo hi none n).1=((HT.sIx n 0 lo:Nat):Int)/\(sliceBounds lo hi none n).2.1=((HT.sIx n n hi:Nat):Int)/\(sliceBounds lo hi none n).2.2=1:=by
 refine⟨?_,?_,rfl⟩
 ·cases lo with
  | none=>simp [sliceBounds,HT.sIx]
  | some i=>
   simp only [sliceBounds,HT.sIx,Option.getD_none,show (1:Int) > 0 by decide,if_true]
   by_cases h:i<0
   ·simp only [h,if_true]<;>omega
   ·simp only [h,if_false]<;>omega
 ·cases hi with
  | none=>simp [sliceBounds,HT.sIx]
  | some i=>
   simp only [sliceBounds,HT.sIx,Option.getD_none,show (1:Int) > 0 by decide,if_true]
   by_cases h:i<0
   ·simp only [h,if_true]<;>omega
   ·simp only [h,if_false]<;>omega
theorem slicePick_cut(its:List Value)(lo hi:Option Int):slicePick its.toArray lo hi none=((its.drop (HT.sIx its.length 0 lo)).take (HT.sIx its.length its.length hi - HT.sIx its.length 0 lo)).toArray:=by
 obtain⟨h1,h2,h3⟩:=slice_bounds lo hi its.toArray.size
 unfold slicePick
 rw [h1,h2,h3]
 simp only [sliceRange_one,pick_run,List.size_toArray]<;>rfl
def rSlL(K:PySem.W.Frag):V->Option Int->Option Int->Hp->VK->Prop:=fun x lo hi H Q=>∃ a xs,x=.ref a/\SqL K H a xs/\∀ p,H p=none->Q (.ref p) (upd H p (.lst (cutV xs lo hi)))
theorem sl_list:SlR X (rSlL X.K):=by
 intro pins s σ H x v vl vu lo hi sl Q I rx hs pl pu h
 obtain⟨a,xs,rfl,hx,q⟩:=h
 cases rx
 obtain⟨its,r,ht,hz⟩:=I.list hx
 have hlen:=r.length
 refine⟨"list",_,slot_list_getitem.lookup,ht.isList.typeIs,?_⟩
 refine wpAny_getItem_list_slice ht.isList hs pl pu .none (by simp) ?_ (by rw [List.size_toArray]<;>omega)
 rw [slicePick_cut,<-hlen]
 refine⟨.ref s.heap.objs.size,_,I.laid (t':=s.toks) (o:=.lst (cutV xs lo hi)) (fun b ob q=>Heap.get?_push_of_some _ q) (Nat.le_refl _) ?_,rfl,q _ (I.hok.fresh (Nat.le_refl _))⟩
 exact⟨Nat.le_trans (cutV_length xs lo hi) hz,_,0,(r.drop (HT.sIx xs.length 0 lo)).take (HT.sIx xs.length xs.length hi - HT.sIx xs.length 0 lo),Heap.get?_push_size _ rfl⟩
theorem call_len_seq:CallR X (.builtin "len") (fun xs H Q=>∃ p ys,xs=[.ref p]/\(SqL X.K H p ys\/SqT X.K H p ys)/\Q (.int ys.length) H):=by
 intro pins s σ H xs us Q I r h
 obtain⟨p,ys,rfl,hq,q⟩:=h
 obtain⟨u,rfl,rx⟩:=vals1 r
 cases rx
 have hn:=line63
 rcases hq with hq | hq
 ·obtain⟨its,r',pl,hz⟩:=I.list hq
  have hlen:=r'.length
  exact Calls.call_len_list pl.isList (by simp only [List.size_toArray]<;>omega) ⟨.int ys.length,H,I.tok _,⟨s.toks+1,by rw [List.size_toArray,hlen]⟩,q⟩
 ·obtain⟨its,r',pl,hz⟩:=I.tuple hq
  have hlen:=r'.length
  exact len_tuple pl (by simp only [List.size_toArray]<;>omega) ⟨.int ys.length,H,I.tok _,⟨s.toks+1,by rw [List.size_toArray,hlen]⟩,q⟩
theorem call_len_str:CallR X (.builtin "len") (fun xs H Q=>∃ z,xs=[.str z]/\z.length<=sizeLine/\Q (.int z.length) H):=by
 intro pins s σ H xs us Q I r h
 obtain⟨z,rfl,hz,q⟩:=h
 obtain⟨u,rfl,t,rfl⟩:=vals1 r
 have hn:=line63
 exact len_str (by omega) ⟨.int z.length,H,I.tok _,⟨_,rfl⟩,q⟩
def tyV (K : PySem.W.Frag) (T : String) (x : V) (H : Hp) : Prop := match x with
 | .str _ => T = "str"
 | .int _ => T = "int"
 | .ref p => (T = "list" ∧ ∃ xs, SqL K H p xs) ∨ (T = "tuple" ∧ ∃ o, K.lookup p = some o ∧ o.cls = .type "tuple" ∧ o.dict = none) ∨
   (T = "dict" ∧ ((∃ kvs, H p = some (.dK kvs)) ∨ ∃ kvs, H p = some (.dT kvs))) ∨ (T = "set" ∧ ∃ S n, H p = some (.set S n))
 | _ => False
theorem tyV_is{pins:List (Addr×Obj)}{σ:St}{H:Hp}{s:Shared}{T:String}{x:V}{v:Value}(I:Inv X pins σ H s)(r:RelV x v)(ty:tyV X.K T x H):
  s.TypeIs v T/\∀ a,v=.ref a->∃ ob,s.heap.get? a=some ob/\ob.dict=none:=by
 cases x with
 | str z=>
  obtain⟨t,rfl⟩:=r
  cases (show T="str" from ty)
  exact⟨typeIs_str s z t,fun _ e=>nomatch e⟩
 | int i=>
  obtain⟨t,rfl⟩:=r
  cases (show T="int" from ty)
  exact⟨typeIs_int s i t,fun _ e=>nomatch e⟩
 | ref p=>
  cases r
  rcases ty with ⟨rfl,xs,hq⟩ | ⟨rfl,o,hk,hc,hd⟩ | ⟨rfl,hk⟩ | ⟨rfl,S,n,hk⟩
  ·obtain⟨its,_,pl,_⟩:=I.list hq
   refine⟨pl.isList.typeIs,fun a e=>?_⟩
   cases e
   obtain⟨o,n,e,c,hd,_⟩:=pl
   exact⟨o,e,hd⟩
  ·refine⟨⟨o,I.kIn p o hk,hc⟩,fun a e=>?_⟩
   cases e
   exact⟨o,I.kIn _ o hk,hd⟩
  ·have z:∃ o,s.heap.get? p=some o/\o.ExactDict:=by
    rcases hk with ⟨kvs,hk⟩ | ⟨kvs,hk⟩
    ·obtain⟨_,_,_,_,o,_,_,e,ex,_⟩:=I.hok p _ hk
     exact⟨o,e,ex⟩
    ·obtain⟨_,_,_,_,o,_,_,e,ex,_⟩:=I.hok p _ hk
     exact⟨o,e,ex⟩
   obtain⟨o,e,ex⟩:=z
   refine⟨⟨o,e,ex.1⟩,fun a e2=>?_⟩
   cases e2
   exact⟨o,e,ex.2.1⟩
  ·obtain⟨o,_,_,_,e,ex,_⟩:=I.hok p _ hk
   refine⟨⟨o,e,ex.1⟩,fun a e2=>?_⟩
   cases e2
   exact⟨o,e,ex.2.1⟩
 | _=>exact False.elim ty
def tBM0(K:PySem.W.Frag)(T:String)(r:V->List V->Hp->VK->Prop)(to:TE):TE:=fun σ H Q=>to σ H fun x H1=>tyV K T x H1/\r x [] H1 Q
def tBM(K:PySem.W.Frag)(T:String)(r:V->List V->Hp->VK->Prop)(to:TE)(t:TA):TE:=fun σ H Q=>to σ H fun x H1=>tyV K T x H1/\t σ H1 fun xs H2=>r x xs H2 Q
variable {o e:Expr} {es:List Expr} {to:TE} {t:TA} {name:Str} {apos cpos:Pos} {T id:String} {r:V->List V->Hp->VK->Prop}
theorem pe_bm0 (pa:PlainAttrs T) (slot:Slot T name id) (hty:typeOf (.builtin id)=pure (.type "method_descriptor")) (hm:MtR X id r) (ho:PE X o to)
  (hbase:attributeBase o name X.env (eval o X.env)=eval o X.env:=by rfl) (hline:(apos.endLine==cpos.line)=true:=by rfl):PE X (.Call (.Attribute o name apos) [] [] cpos) (tBM0 X.K T r to):=by
 intro pins s σ H Q I h
 refine wpAny_Call_method0_late hbase hline (thn (ho pins s σ H _ I h) fun v s1 ⟨x,H1,I1,r1,ty,q1⟩=>?_)
 obtain⟨h1,h2⟩:=tyV_is I1 r1 ty
 exact⟨T,id,pa,slot,hty,h1,h2,Calls.callWith_builtin rfl (PySem.evalArgs_none (hm pins s1 σ H1 x [] v [] Q I1 r1 .nil q1))⟩
theorem pe_bm (pa:PlainAttrs T) (slot:Slot T name id) (hty:typeOf (.builtin id)=pure (.type "method_descriptor")) (hm:MtR X id r) (ho:PE X o to) (ha:PA X (e::es) t)
  (hbase:attributeBase o name X.env (eval o X.env)=eval o X.env:=by rfl)
  (hfew:((backTo cpos (starEach (e::es) X.env)).all (fun x=>!x.1)&&(backToKw cpos (keywordEach [] X.env)).all (fun x=>x.1.isSome)
   && decide ((e::es).length+([]:List Keyword).length+(if ([]:List Keyword).isEmpty then 0 else 1)<30))=true:=by rfl)
  (hline:(apos.endLine==cpos.line)=true:=by rfl) (hs:starEach (e::es) X.env=(false,eval e X.env)::starEach es X.env:=by rfl) (hplain:(backTo cpos (starEach es X.env)).any (·.1)=false:=by rfl) :
  PE X (.Call (.Attribute o name apos) (e::es) [] cpos) (tBM X.K T r to t):=by
 intro pins s σ H Q I h
 refine wpAny_Call_method_late hbase hfew hline rfl (thn (ho pins s σ H _ I h) fun v s1 ⟨x,H1,I1,r1,ty,q1⟩=>?_)
 obtain⟨h1,h2⟩:=tyV_is I1 r1 ty
 refine⟨T,id,pa,slot,hty,h1,h2,?_⟩
 have hA:=ha cpos pins s1 σ H1 _ I1 q1
 rw [hs] at hA ⊢
 refine Calls.callWith_builtin (by show (false || (backTo cpos (starEach es X.env)).any (·.1))=false;rw [hplain]<;>rfl) (Calls.evalArgs_plain ?_)
 exact thn hA fun us s2 ⟨vs,H2,I2,r2,q2⟩=>hm pins s2 σ H2 x vs v us Q I2 r1 r2 q2
/- xs.append(e),list.index on a module's tuple .. are MtR facts of 06m -/
end
end L2
namespace L2
open PySem PySem.Spec PyProof.Rows
def MtM(X:Cx)(id:String)(r:V->List V->Hp->VK->Prop):Prop:=
 ∀ (pins:List (Addr×Obj)) (s:Shared) (σ:St) (H:Hp) (x:V) (xs:List V) (v:Value) (us:List Value) (Q:VK),Inv X pins σ H s->RelV x v->Vals xs us->r x xs H Q →
  wpAny (model X.prog X.w) X.A (call (.builtin id) (v::us)) (EP X pins σ Q) X.xe s
theorem Vals.one:∀ {x:V} {us:List Value},Vals [x] us->∃ u,us=[u]/\RelV x u
 | _,_,.cons r .nil=>⟨_,rfl,r⟩
theorem Vals.two:∀ {x y:V} {us:List Value},Vals [x,y] us->∃ u v,us=[u,v]/\RelV x u/\RelV y v
 | _,_,_,.cons r (.cons q .nil)=>⟨_,_,rfl,r,q⟩
theorem Vals.zero:∀ {us:List Value},Vals [] us->us=[]
 | _,.nil=>rfl
theorem Vals.dropLast{xs:List V}{us:List Value}(h:Vals xs us):Vals xs.dropLast us.dropLast:=by
 induction h with
 | nil=>exact .nil
 | cons r t ih=>
  cases t with
  | nil=>exact .nil
  | cons q t'=>exact .cons r ih
theorem erase_last{α:Type}(l:List α):l.eraseIdx (l.length - 1)=l.dropLast:=by
 induction l with
 | nil=>rfl
 | cons a r ih=>
  cases r with
  | nil=>rfl
  | cons b r=>
   have e:(a::b::r).length - 1=((b::r).length - 1)+1:=by
    have h1:(a::b::r).length=r.length+2:=rfl
    have h2:(b::r).length=r.length+1:=rfl
    omega
   rw [e,List.eraseIdx_cons_succ,ih]
   all_goals rfl
section
variable {X:Cx} {pins:List (Addr×Obj)} {σ:St} {H:Hp} {s:Shared} {l b:Addr} {xs ys zs:List V}
theorem Inv.lset{its its':List Value}{n:Nat}{f:Array Value->Array Value}{t':Nat}(I:Inv X pins σ H s)(hH:H l=some (.lst xs))
  (e:s.heap.get? l=some { cls:=.type "list",data:=.seq its.toArray n }) (hf:f its.toArray=its'.toArray) (hv:Vals ys its') (hz:ys.length<=sizeLine) :
  Inv X pins σ (upd H l (.lst ys)) { s with heap:=s.heap.update l (Obj.mapSeq f),toks:=t' }:=by
 have q:=PySem.IsL.update e f
 rw [hf] at q
 refine I.write (x:=l) (e:=l) (by rw [hH];exact trivial) (.inl rfl) (fun b' u hb hu=>(Heap.get?_update_other s.heap (Obj.mapSeq f) (Ne.symm hb)).trans hu) ⟨_,q⟩ ?_
 exact⟨hz,its',_,hv,q⟩
theorem Inv.lnew{its:List Value}{t':Nat}(I:Inv X pins σ H s)(hv:Vals ys its)(hz:ys.length<=sizeLine):
  Inv X pins σ (upd H s.heap.objs.size (.lst ys)) { s with heap:=s.heap.push { cls:=.type "list",data:=.seq its.toArray },toks:=t' }:=
 I.laid (fun _ _ q=>Heap.get?_push_of_some _ q) (Nat.le_refl _) ⟨hz,its,0,hv,Heap.get?_push_size _ rfl⟩
theorem Inv.fresh(I:Inv X pins σ H s):H s.heap.objs.size=none:=I.hok.fresh (Nat.le_refl _)
theorem Inv.lstM (I:Inv X pins σ H s) (hH:H l=some (.lst xs)):xs.length<=sizeLine/\∃ (its:List Value) (n:Nat),Vals xs its/\xs.length=its.length/\s.heap.get? l=some { cls:=.type "list",data:=.seq its.toArray n }:=by
 obtain⟨z,its,n,r,e⟩:=I.hok l _ hH
 exact⟨z,its,n,r,r.length,e⟩
theorem notLongL{n:Nat}(h:n<=sizeLine):Builtin.List.listTooLong n=false:=by
 unfold Builtin.List.listTooLong
 exact decide_eq_false (by omega)
end
section
variable {X:Cx}
def rAppend:V->List V->Hp->VK->Prop:=fun x vs H Q=>∃ l xs y,x=.ref l/\vs=[y]/\H l=some (.lst xs)/\xs.length<sizeLine/\Q .non (upd H l (.lst (xs++[y])))
theorem mt_append:MtM X "list.append" rAppend:=by
 intro pins s σ H x vs v us Q I rx rv h
 obtain⟨l,xs,y,rfl,rfl,hH,hz,q⟩:=h
 cases rx
 obtain⟨u,rfl,ru⟩:=rv.one
 obtain⟨z,its,n,r,hl,e⟩:=I.lstM hH
 refine call_meets F.slot_list_append ⟨_,e,rfl⟩ F.entry_list_append (F.args_list_append_2 _ _) (PySem.list_append l its.toArray n u (by rw [List.size_toArray];omega)) ⟨e,?_⟩
 refine⟨.non,_,I.lset (its':=its++[u]) hH e (by simp) (r.append (.cons ru .nil)) ?_,rfl,q⟩
 rw [List.length_append,List.length_singleton]
 omega
def rExtend:V->List V->Hp->VK->Prop:=fun x vs H Q=>∃ l b xs zs,x=.ref l/\vs=[.ref b]/\H l=some (.lst xs)/\H b=some (.lst zs)/\xs.length+zs.length<=sizeLine/\Q .non (upd H l (.lst (xs++zs)))
theorem mt_extend:MtM X "list.extend" rExtend:=by
 intro pins s σ H x vs v us Q I rx rv h
 obtain⟨l,b,xs,zs,rfl,rfl,hH,hB,hz,q⟩:=h
 cases rx
 obtain⟨u,rfl,ru⟩:=rv.one
 cases ru
 obtain⟨z,its,n,r,hl,e⟩:=I.lstM hH
 obtain⟨z2,its2,n2,r2,hl2,e2⟩:=I.lstM hB
 have hsz:its.toArray.size+its2.toArray.size<=sizeLine:=by rw [List.size_toArray,List.size_toArray];omega
 have hlong:¬ (!its.toArray.isEmpty&&Builtin.List.listTooLong (its.toArray.size+its2.toArray.size))=true:=by
  rw [notLongL hsz,Bool.and_false]
  exact Bool.false_ne_true
 refine call_meets F.slot_list_extend ⟨_,e,rfl⟩ F.entry_list_extend (F.args_list_extend_2 _ _)
  (AutoSeq1.list_extend_list_list_0 l its.toArray n b its2.toArray n2 hlong (by rw [List.size_toArray];omega) (by omega)) ⟨e,e2,?_⟩
 refine⟨.non,_,I.lset (its':=its++its2) hH e (by simp) (r.append r2) ?_,rfl,q⟩
 rw [List.length_append]
 omega
def rPop:V->List V->Hp->VK->Prop:=fun x vs H Q=>∃ l xs y,x=.ref l/\vs=[]/\H l=some (.lst xs)/\xs[xs.length - 1]? = some y/\Q y (upd H l (.lst xs.dropLast))
theorem mt_pop:MtM X "list.pop" rPop:=by
 intro pins s σ H x vs v us Q I rx rv h
 obtain⟨l,xs,y,rfl,rfl,hH,hy,q⟩:=h
 cases rx
 have hus:=rv.zero
 subst hus
 obtain⟨z,its,n,r,hl,e⟩:=I.lstM hH
 obtain⟨u,hu,ru⟩:=r.get hy
 have hy':its.toArray[its.toArray.size - 1]? = some u:=by
  show its.toArray[its.length - 1]? = some u
  rw [<-Array.getElem?_toList,<-hl]
  exact hu
 refine call_meets F.slot_list_pop ⟨_,e,rfl⟩ F.entry_list_pop (F.args_list_pop_1 _) (MeetsSeq.list_pop_last l its.toArray n u hy' (by rw [List.size_toArray];omega)) ⟨e,?_⟩
 refine⟨y,_,I.lset (its':=its.dropLast) hH e ?_ r.dropLast ?_,ru,q⟩
 ·show its.toArray.eraseIdxIfInBounds (its.toArray.size - 1)=its.dropLast.toArray
  rw [List.size_toArray,List.eraseIdxIfInBounds_toArray,erase_last]
 ·rw [List.length_dropLast]
  omega
def rCat:R2:=fun x y H Q=>∃ l b xs zs,x=.ref l/\y=.ref b/\H l=some (.lst xs)/\H b=some (.lst zs)/\xs.length+zs.length<=sizeLine/\∀ p,H p=none->Q (.ref p) (upd H p (.lst (xs++zs)))
theorem op_cat:OpR X (binaryOp .Add) rCat:=by
 intro pins s σ H x y v u Q I rx ry h
 obtain⟨l,b,xs,zs,rfl,rfl,hH,hB,hz,q⟩:=h
 cases rx
 cases ry
 obtain⟨z,its,n,r,hl,e⟩:=I.lstM hH
 obtain⟨z2,its2,n2,r2,hl2,e2⟩:=I.lstM hB
 refine PySem.P.add_list e e2 ?_ (by rw [List.size_toArray,List.size_toArray];omega)
 have ea:its.toArray++its2.toArray=(its++its2).toArray:=by simp
 rw [ea]
 exact⟨.ref _,_,I.lnew (t':=s.toks) (r.append r2) (by rw [List.length_append];omega),rfl,q _ I.fresh⟩
end
section
variable {prog:Program} {w:World} {A:Around} {E:Value->Shared->Prop} {s:Shared}
set_option maxRecDepth 100000 in
end
end L2
namespace Att
open PySem PySem.W PySem.Calls PyProof.Rows
theorem ints_of_wellAll{P:Params}{h:Heap}:∀ (ns:List Int) (vs:List Value),WellAll P h vs (ns.map WData.int)->IntsAre vs ns:=by
 intro ns
 induction ns with
 | nil=>
  intro vs w
  rw [List.map_nil] at w
  cases w
  exact .nil
 | cons n ns ih=>
  intro vs w
  rw [List.map_cons] at w
  cases w with
  | cons a b=>
   cases a
   exact .cons _ _ (ih _ b)
theorem script_of{l:OpenLaw}{n:Nat}(hn:l.most=some n){P:Params}{h:Heap}{args:List WData}{vals:List Value}
  (hpre:l.row.toRowW.claim.pre args=true) (hwl:WellAll P h vals args) :
  ∃ a vs ns,vals=[Value.ref a]/\args=[WData.list (ns.map WData.int)]/\h.get? a=some { cls:=.type "list",data:=.seq vs.toArray }/\IntsAre vs ns/\ns.length<=n:=by
 have hsh:WShape.hasAll [] args [.list .int]=true:=(pre_splitW hpre).1
 have hc:l.pre.holds [] { args:=args }=true:=(pre_splitW hpre).2
 obtain⟨d,r,rfl,h1,h2⟩:=hasAllW_cons hsh
 obtain rfl:=hasAllW_nil h2
 obtain⟨xs,rfl,h3⟩:=hasW_list h1
 obtain⟨ns,rfl⟩:=items_int h3
 have hlen:ns.length<=n:=by
  unfold OpenLaw.pre at hc
  have h4:(WTm.not (.lt (.lit (.int (n:Int))) (.len (.arg 0)))).holds [] { args:=[.list (ns.map .int)] }=true:=by
   have h4:=(holds_andW hc).1
   rw [hn] at h4
   exact h4
  have h5:=condW_of h4 (w_not (w_lt w_lit (w_len_list (w_arg rfl))))
  rw [List.length_map] at h5
  refine Nat.le_of_not_lt fun q=>?_
  have q':(n:Int)<((ns.length:Nat):Int):=by omega
  first
   | (rw [decide_eq_true q'] at h5;exact absurd h5 (by decide))
   | (simp at h5;omega)
 cases hwl with
 | cons w1 w2=>
  cases w2
  cases w1 with
  | list ho hall=>exact⟨_,_,ns,rfl,rfl,ho,ints_of_wellAll ns _ hall,hlen⟩
theorem post_true(l:OpenLaw)(args:List WData):l.row.toRowW.claim.post args (.bool true) args=true:=
 postW_of (r:=l.row.toRowW) (X:=(true==true))
  (show WShape.has [] (.bool true) .bool=true by first | rfl | decide | simp [WShape.has,WShape.arms,WShape.armsAll])
  (show (WTm.eq .res (.lit (.bool true))).value [] { args:=args,res:=some (.bool true),after:=args }=some (.bool (true==true)) from w_eq_bool (w_res rfl) w_lit) rfl
theorem attach_call{l:OpenLaw}{n:Nat}{q:Program}{loose:List Str}{XP:(Str->Option Value)->Heap->Prop}{YP:World->Heap->Prop}{d:DefRec}
  (hn:l.most=some n) (hdf:d.params.defaults=[])
  (call:∀ (w:World) (s₀ s₁:Shared) (mg mb:Str->Option Value) (fa:Addr) (o:Obj) (pm cd doc:Value) (a:Addr) (vs:List Value) (ns:List Int),
   Ground q loose [] XP w s₀ mg mb s₁.heap->YP w s₁.heap →
   s₁.heap.get? fa=some o->o.data=.func (docDef d.name d.params d.body d.scope pm cd doc)->s₁.heap.CodeRec cd d.name->mg d.name=some (.ref fa) →
   s₁.heap.get? a=some { cls:=.type "list",data:=.seq vs.toArray }->IntsAre vs ns->ns.length<=n->s₁.gens=#[] →
   codeAny (model l.prog w) callerA (.call (.ref fa) ⟨[.ref a],[]⟩) (fun r s'=>r=.ok (.ret (.bool true))/\OldK s₁.heap s'.heap/\s'.os=s₁.os/\AllBare s'.gens) s₁) :
  WalkO q loose XP YP l.row.toRowW d [] (fun f vs=>PySem.call f vs):=by
 intro w s₀ s₁ mg mb G Y fa o pm cd doc dV kV ho hd hcd hD hmg hg args vals as hpre hlay hrd hwl hlo
 obtain rfl:dV=.none:=Dflts.none hD hdf
 obtain rfl:kV=.none:=Dflts.noKw hD
 obtain⟨a,vs,ns,rfl,rfl,hobj,hints,hlen⟩:=script_of hn hpre hwl
 refine enter_call (codeAny_mono (call w s₀ s₁ mg mb fa o pm cd doc a vs ns G Y ho (fd_plain hd) hcd hmg hobj hints hlen hg) fun r s' hq=>?_)
 obtain⟨rfl,h2,h3,h4⟩:=hq
 exact⟨.inl ⟨.bool true,.bool true,[],rfl,fun _=>rfl,.bool true,post_true l _,fun _=>⟨List.Pairwise.nil,fun _ hm=>(nomatch hm)⟩⟩,h2,h3,h4⟩
section
variable {prog:Program} {w:World} {A:Around} {E:Value->Shared->Prop} {s:Shared} {K:Frag}
end
end Att
namespace L2
open PySem PySem.Spec PyProof.Rows
theorem vals_ints:∀ {vs:List Value} {ns:List Int},IntsAre vs ns->Vals (ns.map V.int) vs
 | _,_,.nil=>.nil
 | _,_,.cons n t h=>.cons ⟨t,rfl⟩ (vals_ints h)
def Only(H:Hp):Prop:=∀ b,H b=none\/∃ o xs,H b=some (.frz o (.lst xs))
theorem law_call{P:Program}{w:World}{K:PySem.W.Frag}{mg mb:Str->Option Value}{CX:CXT}{k:Nat}{fa a:Addr}{fd:FuncData}{x:Str}{sp:Sp}{s₁:Shared}{vs:List Value}{ns:List Int}
  (KX:K.In s₁.heap) (hns:s₁.heap.Ns mainGlobals mg) (hb:s₁.heap.Ns builtinsNs mb) (hbb:∀ x:Str,x≠"__name__"->mb x=bootBuiltins x) (hlim:s₁.heap.NoLimit) (hg:s₁.gens=#[])
  (ha:s₁.heap.get? a=some { cls:=.type "list",data:=.seq vs.toArray }) (hi:IntsAre vs ns) (hl:ns.length<=sizeLine) (hr:Room k callerA)
  (F:∀ base:Heap,K.In base->base.Ns mainGlobals mg->FnOk P w K mg base CX k fa fd [x] sp) (hbind:∀ (s:Shared) (u:Value),BindsTo s fd ⟨[u],[]⟩ [(x,u)])
  (hsp:∀ H:Hp,Only H->SqL K H a (ns.map V.int)->sp [.ref a] H (fun v _=>v=.bl true) fun _ _ _=>False)
  (hCX:∀ H e s',CX [] H s₁ (fun _ _ _=>False) e s'->False) :
  codeAny (model P w) callerA (.call (.ref fa) ⟨[.ref a],[]⟩) (fun r s'=>r=.ok (.ret (.bool true))/\OldK s₁.heap s'.heap/\s'.os=s₁.os/\AllBare s'.gens) s₁:=by
 have rv:=vals_ints hi
 have lenV:=hi.length
 have core:∀ H:Hp,Only H->SqL K H a (ns.map V.int)->HOk P w H s₁.heap->(∀ b,H b≠none->b=a)->(H a≠none->K.lookup a=none) →
   codeAny (model P w) callerA (.call (.ref fa) ⟨[.ref a],[]⟩) (fun r s'=>r=.ok (.ret (.bool true))/\OldK s₁.heap s'.heap/\s'.os=s₁.os/\AllBare s'.gens) s₁:=by
  intro H hO hS hok hA hK
  have base_of:∀ {b:Addr} {o:Obj},s₁.heap.get? b=some o->H b=none->(hidT s₁.heap H).get? b=some o:=fun e n=>hidT_get e n
  have noA:∀ {b:Addr} {o:Obj} {es:Array DictEntry} {ep:Nat},s₁.heap.get? b=some o->o.data=.dict es ep->H b=none:=fun {b o es ep} e d=>by
   cases q:H b with
   | none=>rfl
   | some u=>
    have e':b=a:=hA b (by rw [q];simp)
    subst e'
    rw [ha] at e;cases e
    have d':Data.seq vs.toArray _=Data.dict es ep:=d
    cases d'
  have nsK:∀ {b:Addr} {m:Str->Option Value},s₁.heap.Ns b m->(hidT s₁.heap H).Ns b m:=fun {b m} ⟨o,es,ep,e,d,r⟩=>⟨o,es,ep,base_of e (noA e d),d,r⟩
  have hKb:K.In (hidT s₁.heap H):=fun b o e=>base_of (KX b o e) (by
   cases q:H b with
   | none=>rfl
   | some u=>
    have e':b=a:=hA b (by rw [q];simp)
    subst e'
    rw [hK (by rw [q];simp)] at e;cases e)
  have hM:Mod K mg (hidT s₁.heap H):=⟨hKb,nsK hns,⟨mb,nsK hb,hbb⟩,let ⟨mc,h1,h2⟩:=hlim;⟨mc,nsK h1,h2⟩⟩
  have e0:Env0 P w K mg (hidT s₁.heap H) callerA [] s₁ H:=⟨rfl,hM,fun b o e=>of_hidT e,Nat.le_of_eq (hidT_size _ _),trivial,fun b hb=>absurd (show b∈([]:List Addr) from hb) (by simp),hok,.of_eq hg⟩
  refine codeAny_mono ((F _ hKb (nsK hns)).run callerA [] s₁ H ⟨[.ref a],[]⟩ [.ref a] [.ref a] _ _ hr e0 (hbind s₁ (.ref a)) (.cons rfl .nil) (hsp H hO hS)) fun r s' h=>?_
  cases r with
  | error e=>exact (hCX H e s' h).elim
  | ok fl=>
   cases fl with
   | next=>exact False.elim h
   | brk=>exact False.elim h
   | cont=>exact False.elim h
   | ret u=>
    obtain⟨v,H',os,bare,un,hok',r',q⟩:=h
    have q':v=.bl true:=q
    subst q'
    obtain rfl:u=Value.bool true:=r'
    refine⟨rfl,OldK.of_keep fun b o e=>?_,os,bare⟩
    cases q:H b with
    | none=>exact un.keep b o e q (by intro z;exact absurd (show b∈([]:List Addr) from z) (by simp)) (by simp)
    | some u=>
     rcases hO b with z | ⟨ob,xs,z⟩
     ·rw [q] at z;cases z
     ·have z2:=un.frzs b ob _ z
      obtain⟨e1,_⟩:=hok b _ z
      obtain⟨e2,_⟩:=hok' b _ z2
      rw [e] at e1;cases e1
      exact e2
 cases hk:K.lookup a with
 | some o=>
  have e:=KX a o hk
  rw [ha] at e
  cases e
  refine core (fun _=>none) (fun _=>.inl rfl) (.inr ⟨_,vs.toArray,_,hk,rfl,rfl,rfl,by rw [List.size_toArray,lenV];exact hl,by simpa using rv⟩) (fun b u z=>by have z':(none:Option HO)=some u:=z;cases z') (fun b z=>absurd rfl z) fun z=>absurd rfl z
 | none=>
  refine core (fun b=>if b=a then some (.frz { cls:=.type "list",data:=.seq vs.toArray } (.lst (ns.map V.int))) else none) (fun b=>?_) (.inl (.inr ⟨{ cls:=.type "list",data:=.seq vs.toArray },if_pos rfl⟩)) (fun b u z=>?_) (fun b z=>?_) fun _=>hk
  ·by_cases hb:b=a
   ·exact .inr ⟨_,_,if_pos hb⟩
   ·exact .inl (if_neg hb)
  ·by_cases hb:b=a
   ·have z':=(if_pos hb).symm.trans z
    cases z'
    subst hb
    exact⟨ha,by rw [List.length_map];exact hl,vs,_,rv,ha⟩
   ·have z':=(if_neg hb).symm.trans z
    cases z'
  ·by_cases hb:b=a
   ·exact hb
   ·exact absurd (if_neg hb) z
end L2
namespace L2
open PySem PySem.Spec PyProof.Rows
abbrev KOf {K:PySem.W.Frag} {h:Heap} (_:K.In h):PySem.W.Frag:=K
theorem walk_of{l:PySem.W.OpenLaw}{n k:Nat}{q:Program}{loose:List Str}{XP:(Str->Option Value)->Heap->Prop}{YP:World->Heap->Prop}{d:DefRec}{K:Params->PySem.W.Frag}{CX:World->CXT}{sp:World->Sp}{x:Str}
  (hn:l.most=some n) (hn2:n<=sizeLine) (hdf:d.params.defaults=[]) (hr:Room k callerA)
  (hY:∀ (w:World) (h:Heap),YP w h->(K w.params).In h)
  (F:∀ (w:World) (mg:Str->Option Value) (fa:Addr) (h:Heap),(K w.params).In h->h.Ns mainGlobals mg->mg d.name=some (.ref fa) →
   ∃ fd:FuncData,(∀ (s:Shared) (u:Value),BindsTo s fd ⟨[u],[]⟩ [(x,u)]) ∧
    ∀ base:Heap,(K w.params).In base->base.Ns mainGlobals mg->FnOk l.prog w (K w.params) mg base (CX w) k fa fd [x] (sp w))
  (hsp:∀ (w:World) (H:Hp) (a:Addr) (ns:List Int),ns.length<=n->Only H->SqL (K w.params) H a (ns.map V.int)->sp w [.ref a] H (fun v _=>v=.bl true) fun _ _ _=>False)
  (hCX:∀ (w:World) (H:Hp) (s:Shared) (e:Value) (s':Shared),CX w [] H s (fun _ _ _=>False) e s'->False) :
  PySem.W.WalkO q loose XP YP l.row.toRowW d [] (fun f vs=>PySem.call f vs):=by
 refine Att.attach_call hn hdf fun w s₀ s₁ mg mb fa o pm cd doc a vs ns G Y ho hd hcd hmg hobj hints hlen hg=>?_
 have KX:=hY w _ Y
 obtain⟨fd,hb,hF⟩:=F w mg fa _ KX G.T.g hmg
 exact law_call KX G.T.g G.T.b G.T.builtins G.T.nolimit hg hobj hints (Nat.le_trans hlen hn2) hr hF hb (fun H hO hS=>hsp w H a ns hlen hO hS) fun H e s'=>hCX w H s₁ e s'
end L2
/- THE LAST THEOREM (shape;LID,My.* are yours):
   My.Adr: a structure of the addresses that your layer names (classes,functions);My.Txt K t: a structure (Prop) of the equations over K;
   My.txt_mk:{K} {implicit addresses ..} (e1:nsIn K mainGlobals "law"=some (some (.ref f))) (e2:K.lookup f=some ⟨oc,od,.func (fnOf "law" "law" params body scope dV kV doc pm an cdv ct),sl⟩) (e3:codeIn K cdv "law"=true) ..:∃ t,My.Txt K t
set_option maxRecDepth 100000 in
set_option maxHeartbeats 0 in
theorem PySem.Challenge.cw_LID_holds : PySem.Challenge.rw_LID.Holds := by
 w_on; o_law; k_head; (case hw => w_witness2)
 k_fill
 refine L2.walk_of (l := PySem.Challenge.rw_LID) (n := 63) (k := 40) (x := "script") (CX := fun w => ..) (sp := fun _ => My.sp_law) rfl (by decide) rfl ⟨rfl, by decide, by decide⟩ (fun w h Y => PySem.W.kIn_of Y) ?F ?S ?C
 case F =>
  intro w mg fa h KX G hmg
  have T : ∃ t, My.Txt (L2.KOf KX) t := by
   dsimp only [L2.KOf]                          -- K must stand as «<heap const> w.params» for k_is
   refine' My.txt_mk ?e1 ?e2 ?e3 ..
   (case e1 => PySem.W.k_is)                    -- in the order: a name -> its address -> its object -> its parts
   (case e2 => PySem.W.k_is)
   ..
  obtain ⟨t, T⟩ := T
  have e0 := hmg.symm.trans (PySem.W.mg_of KX G T.law)
  cases e0                                       -- fa is the law's own address
  exact ⟨_, fun s u => .of_eq rfl, fun base kb nb => My.law_fn T kb nb⟩     -- if «.of_eq rfl» comes too early: refine' ⟨_, ?b, fun base kb nb => My.law_fn T kb nb⟩; exact fun s u => .of_eq rfl
 case S => exact fun w H a ns hl hO hS => ..
 case C => exact ..
(the tactic k_is has no namespace: write k_is) -/
namespace L2
open PySem PySem.Spec PyProof.Rows
def defArgs(s:Stmt):Arguments:=match s with
 | .FunctionDef _ a _ _ _ _ _ _ _ _=>a
 | _=>{ posonlyargs:=[],args:=[],vararg:=none,kwonlyargs:=[],kw_defaults:=[],kwarg:=none,defaults:=[] }
def defBody(s:Stmt):List Stmt:=match s with
 | .FunctionDef _ _ b _ _ _ _ _ _ _=>b
 | _=>[]
def defScope(s:Stmt):Scope:=match s with
 | .FunctionDef _ _ _ _ _ _ sc _ _ _=>sc
 | _=>{ kind:=.function,names:=[],isGenerator:=false,isCoroutine:=false }
abbrev CX0:CXT:=fun _ _ _ _ _ _=>False
abbrev E0:XK:=fun _ _ _=>False
theorem pass0{X:Cx}:Passes CX0 X E0:=fun _ _ _ _ _ _ _ h=>h.elim
structure Fun (K:PySem.W.Frag) (x qual:Str) (st:Stmt) (f:Addr) (fd:FuncData):Prop where
 ex:∃ (oc:Value) (od:Option Addr) (kV doc pm:Value) (an:Option Addr) (cdv ct:Value) (osl:Array (Option Value)),
  fd=PySem.W.fnOf x qual (defArgs st) (defBody st) (defScope st) .none kV doc pm an cdv ct/\K.lookup f=some ⟨oc,od,.func fd,osl⟩/\PySem.W.codeIn K cdv qual=true
 kp:PySem.W.keepIn K (.ref f)=true
section
variable {P:Program} {w:World} {K:PySem.W.Frag} {mg:Str->Option Value} {base:Heap}
theorem Fun.ok{x qual:Str}{st:Stmt}{f:Addr}{fd:FuncData}{N ps:List Str}{k:Nat}{sp:Sp}(F:Fun K x qual st f fd)(S:FnScope N ps (defScope st))(len:∀ vs H Q E,sp vs H Q E->vs.length=ps.length)
  (hbody:∀ (cdv:Value) (A:Around) (outer:List Env) (s:Shared) (H:Hp) (vs:List V) (Q:VK) (E:XK),Room k (A.deeper (envOfC qual (defScope st) s.heap.objs.size f cdv))->sp vs H Q E →
   ∃ t,PSs (cxOf CX0 P w K mg base N qual (defScope st) f cdv A outer s H E).nox (defBody st) t/\t { nx:=fun _ H'=>Q .non H',rt:=Q } (start N vs) H):FnOk P w K mg base CX0 (k+1) f fd ps sp:=by
 obtain⟨oc,od,kV,doc,pm,an,cdv,ct,osl,rfl,lk,hcd⟩:=F.ex
 refine fn_of lk hcd S len fun A outer s H vs Q E hr hsp=>?_
 obtain⟨t,h,q⟩:=hbody cdv A outer s H vs Q E hr hsp
 exact⟨t,h.nox,q⟩
theorem Fun.binds{x qual:Str}{st:Stmt}{f:Addr}{fd:FuncData}{ps:List Str}(F:Fun K x qual st f fd)
  (h:∀ (kV doc pm:Value) (an:Option Addr) (cdv ct:Value) (us:List Value),us.length=ps.length->bindArgs (PySem.W.fnOf x qual (defArgs st) (defBody st) (defScope st) .none kV doc pm an cdv ct) ⟨us,[]⟩=pure (ps.zip us)):Binds K fd ps []:=by
 obtain⟨oc,od,kV,doc,pm,an,cdv,ct,osl,rfl,lk,hcd⟩:=F.ex
 exact .all (h kV doc pm an cdv ct)
theorem fun_mk{x qual:Str}{st:Stmt}{f:Addr}{oc:Value}{od an:Option Addr}{osl:Array (Option Value)}{kV doc pm cdv ct:Value}(l:K.lookup f=some ⟨oc,od,.func (PySem.W.fnOf x qual (defArgs st) (defBody st) (defScope st) .none kV doc pm an cdv ct),osl⟩)
  (c:PySem.W.codeIn K cdv qual=true) (k:PySem.W.keepIn K (.ref f)=true):Fun K x qual st f (PySem.W.fnOf x qual (defArgs st) (defBody st) (defScope st) .none kV doc pm an cdv ct):=⟨⟨oc,od,kV,doc,pm,an,cdv,ct,osl,rfl,l,c⟩,k⟩
end
theorem small1000{n:Nat}(h:n<=1000):n<sizeLine:=Nat.lt_of_le_of_lt h (by decide)
section
variable {X:Cx}
theorem pv (i:Nat) {x:Str} {pos:Pos} (hN:X.N[i]? = some x:=by rfl) (hv:Vis X.env.scope x:=by first | exact Or.inl rfl | exact Or.inr (Or.inl rfl) | exact Or.inr (Or.inr rfl)) (hd:(x==("__debug__":Str))=false:=by decide)
  (hcd:(x==("__classdict__":Str))=false:=by decide):PE X (.Name x pos) (tVar i):=pe_var hN hv hd hcd
end
theorem iteF{A B:Prop}(h:B):if false=true then A else B:=by
 rw [if_neg Bool.false_ne_true]
 exact h
theorem iteT{A B:Prop}(h:A):if true=true then A else B:=by
 rw [if_pos rfl]
 exact h
theorem ite2{c A B:Prop} [Decidable c] (h1:c->A) (h2:¬ c->B):if c then A else B:=by
 by_cases h:c
 ·rw [if_pos h]
  exact h1 h
 ·rw [if_neg h]
  exact h2 h
def Same(H H':Hp):Prop:=∀ b o,H b=some o->H' b=some o
theorem Same.refl(H:Hp):Same H H:=fun _ _ h=>h
theorem Same.trans{H H1 H2:Hp}(a:Same H H1)(b:Same H1 H2):Same H H2:=fun c o h=>b c o (a c o h)
theorem Same.free{H H':Hp}(e:Same H H'){l:Addr}(h:H' l=Option.none):H l=Option.none:=by
 cases q:H l with
 | none=>rfl
 | some o=>
  rw [e l o q] at h
  cases h
theorem Same.seq{K:PySem.W.Frag}{H H':Hp}{a:Addr}{xs:List V}(e:Same H H')(h:SqL K H a xs):SqL K H' a xs:=by
 rcases h with (h | ⟨o,h⟩) | h
 ·exact .inl (.inl (e _ _ h))
 ·exact .inl (.inr ⟨o,e _ _ h⟩)
 ·exact .inr h
end L2
set_option maxHeartbeats 4000000
namespace L2
open PySem PySem.Spec PyProof.Rows
mutual
inductive Rep (K:PySem.W.Frag) (H:Hp):V->PyData->Prop
 | non:Rep K H .non .none
 | bl (b:Bool):Rep K H (.bl b) (.bool b)
 | int (i:Int):Rep K H (.int i) (.int i)
 | str (x:Str):Rep K H (.str x) (.str x)
 | tup {a:Addr} {xs:List V} {ds:List PyData}:SqT K H a xs->RepL K H xs ds->Rep K H (.ref a) (.tuple ds)
 | lst {a:Addr} {xs:List V} {ds:List PyData}:SqL K H a xs->RepL K H xs ds->Rep K H (.ref a) (.list ds)
inductive RepL (K:PySem.W.Frag) (H:Hp):List V->List PyData->Prop
 | nil:RepL K H [] []
 | cons {x:V} {xs:List V} {d:PyData} {ds:List PyData}:Rep K H x d->RepL K H xs ds->RepL K H (x::xs) (d::ds)
end
section
variable {X:Cx} {pins:List (Addr×Obj)} {σ:St} {H:Hp} {s:Shared}
mutual
theorem Rep.reads(I:Inv X pins σ H s):∀ {x:V} {d:PyData} {u:Value},Rep X.K H x d->RelV x u->∃ as,Reads s.heap u d as
 | _,_,_,.non,r=>by cases r;exact⟨_,.none⟩
 | _,_,_,.bl b,r=>by cases r;exact⟨_,.bool b⟩
 | _,_,_,.int i,r=>by obtain⟨t,rfl⟩:=r;exact⟨_,.int i t⟩
 | _,_,_,.str x,r=>by obtain⟨t,rfl⟩:=r;exact⟨_,.str x t⟩
 | _,_,_,.tup h hl,r=>by
  cases r
  obtain⟨its,vs,⟨o,e,c,n,dd⟩,_⟩:=I.tuple h
  obtain⟨as,ra⟩:=RepL.reads I hl vs
  exact⟨_,.tuple e c dd (by simpa using ra)⟩
 | _,_,_,.lst h hl,r=>by
  cases r
  obtain⟨its,vs,pl,_⟩:=I.list h
  obtain⟨o,e,c,n,dd⟩:=pl.isList
  obtain⟨as,ra⟩:=RepL.reads I hl vs
  exact⟨_,.list e c dd (by simpa using ra)⟩
theorem RepL.reads(I:Inv X pins σ H s):∀ {xs:List V} {ds:List PyData} {us:List Value},RepL X.K H xs ds->Vals xs us->∃ as,ReadsAll s.heap us ds as
 | _,_,_,.nil,.nil=>⟨_,.nil⟩
 | _,_,_,.cons h hl,.cons r rs=>by
  obtain⟨as,ra⟩:=Rep.reads I h r
  obtain⟨bs,rb⟩:=RepL.reads I hl rs
  exact⟨_,.cons ra rb⟩
end
end
def rEqD(K:PySem.W.Frag)(neg:Bool):R2:=fun x y H Q=>∃ d e,Rep K H x d/\Rep K H y e/\d.canLay0=true/\e.canLay0=true/\min d.depth e.depth<=60 ∧
 Q (.bl (if neg then !PyData.eqv d e else PyData.eqv d e)) H
section
variable {X:Cx}
theorem op_eqD(hu:X.A.units+64<cLine):OpR X (compareOp .Eq) (rEqD X.K false):=by
 intro pins s σ H x y v u Q I rx ry h
 obtain⟨d,e,h1,h2,h3,h4,h5,q⟩:=h
 obtain⟨as,ra⟩:=h1.reads I rx
 obtain⟨bs,rb⟩:=h2.reads I ry
 exact SeqAt.compareEq_reads ra rb h3 h4 (by omega) ⟨.bl _,H,I,rfl,q⟩
theorem op_neD(hu:X.A.units+64<cLine):OpR X (compareOp .NotEq) (rEqD X.K true):=by
 intro pins s σ H x y v u Q I rx ry h
 obtain⟨d,e,h1,h2,h3,h4,h5,q⟩:=h
 obtain⟨as,ra⟩:=h1.reads I rx
 obtain⟨bs,rb⟩:=h2.reads I ry
 exact SeqAt.compareNe_reads ra rb h3 h4 (by omega) ⟨.bl _,H,I,rfl,q⟩
open Classical in
noncomputable def eqR (h:Heap) (d:PyData) (u:Value):Bool:=if z:∃ e as,Reads h u e as/\e.canLay0=true then PyData.eqv z.choose d else false
theorem eqR_of{h:Heap}{d e:PyData}{u:Value}{as:List Addr}(r:Reads h u e as)(c:e.canLay0=true):eqR h d u=PyData.eqv e d:=by
 have z:∃ e as,Reads h u e as/\e.canLay0=true:=⟨e,as,r,c⟩
 unfold eqR
 rw [dif_pos z]
 obtain⟨as',r',c'⟩:=z.choose_spec
 rw [SeqAt.Reads.unique _ _ _ _ _ c' r' r]
theorem any_eqR{h:Heap}{d:PyData}:∀ {us:List Value} {es:List PyData} {as:List Addr},ReadsAll h us es as->PyData.canLayAll0 es=true->us.any (eqR h d)=es.any fun e=>PyData.eqv e d
 | _,_,_,.nil,_=>rfl
 | _,_,_,.cons r rs,c=>by
  have c':(PyData.canLay0 _&&PyData.canLayAll0 _)=true:=c
  rw [Bool.and_eq_true] at c'
  rw [List.any_cons,List.any_cons,eqR_of r c'.1,any_eqR rs c'.2]
theorem mem_eqR{A:Around}{s:Shared}{d:PyData}{x:Value}{bs:List Addr}(rx:Reads s.heap x d bs)(cx:d.canLay0=true)(hu:A.units+d.depth<cLine):
  ∀ {us:List Value} {es:List PyData} {as:List Addr},ReadsAll s.heap us es as->PyData.canLayAll0 es=true->∀ u∈us,SeqAt.EqAt A s u x (eqR s.heap d u)
 | _,_,_,.nil,_=>fun u hu=>nomatch hu
 | _,_,_,.cons r rs,c=>fun u hm=>by
  have c':(PyData.canLay0 _&&PyData.canLayAll0 _)=true:=c
  rw [Bool.and_eq_true] at c'
  rcases List.mem_cons.mp hm with rfl | hm
  ·rw [eqR_of r c'.1]
   exact SeqAt.eqAt_reads _ _ A s _ _ _ _ r rx c'.1 cx (by omega)
  ·exact mem_eqR rx cx hu rs c'.2 u hm
def rInD(K:PySem.W.Frag)(neg:Bool):R2:=fun x y H Q=>∃ d es p xs,Rep K H x d/\y=.ref p/\(SqL K H p xs\/SqT K H p xs)/\RepL K H xs es/\d.canLay0=true/\PyData.canLayAll0 es=true/\d.depth<=60 ∧
 Q (.bl (if neg then !(es.any fun e=>PyData.eqv e d) else es.any fun e=>PyData.eqv e d)) H
theorem op_inD(hu:X.A.units+64<cLine):OpR X (compareOp .In) (rInD X.K false):=by
 intro pins s σ H x y v u Q I rx ry h
 obtain⟨d,es,p,xs,h1,rfl,hq,h2,h3,h4,h5,q⟩:=h
 cases ry
 obtain⟨as,ra⟩:=h1.reads I rx
 rcases hq with hq | hq
 ·obtain⟨its,r,pl,hz⟩:=I.list hq
  obtain⟨bs,rb⟩:=h2.reads I r
  refine SeqAt.in_listAt (eqR s.heap d) pl.isList (fun z hz=>mem_eqR (A:=X.A.in1) ra h3 (by show X.A.units+1+d.depth<cLine;omega) rb h4 z (by simpa using hz)) ⟨.bl _,H,I,rfl,?_⟩
  rw [show its.toArray.any (eqR s.heap d)=its.any (eqR s.heap d) by simp,any_eqR rb h4]
  exact q
 ·obtain⟨its,r,pl,hz⟩:=I.tuple hq
  obtain⟨bs,rb⟩:=h2.reads I r
  refine SeqAt.in_tupleAt (eqR s.heap d) pl (fun z hz=>mem_eqR (A:=X.A.in1) ra h3 (by show X.A.units+1+d.depth<cLine;omega) rb h4 z (by simpa using hz)) ⟨.bl _,H,I,rfl,?_⟩
  rw [show its.toArray.any (eqR s.heap d)=its.any (eqR s.heap d) by simp,any_eqR rb h4]
  exact q
def rIsi(K:PySem.W.Frag):List V->Hp->VK->Prop:=fun xs H Q=>∃ x T t b,xs=[x,.ty T]/\TyOf K H x t/\PySem.W.kitOne K t (.type T)=some b/\Q (.bl b) H
theorem call_isi:CallR X (.builtin "isinstance") (rIsi X.K):=by
 intro pins s σ H xs us Q I r h
 obtain⟨x,T,t,b,rfl,ty,e,q⟩:=h
 obtain⟨u,w,rfl,rx,rw'⟩:=Vals.two r
 cases (show w=Value.type T from rw')
 exact isinst_ok I rx ty e fun tk=>⟨.bl b,H,I.tok tk,rfl,q⟩
def tChain3(r r' r2:R2)(ta tb tc td:TE):TE:=fun σ H Q=>ta σ H fun x H1=>tb σ H1 fun y H2=>r x y H2 fun z H3=>∃ k,z=.bl k ∧
 (if k=true then tc σ H3 fun w' H4=>r' y w' H4 fun z2 H5=>∃ k2,z2=.bl k2/\(if k2=true then td σ H5 fun e H6=>r2 w' e H6 Q else Q (.bl false) H5) else Q (.bl false) H3)
theorem pt_chain3{a b c d:Expr}{ta tb tc td:TE}{pos:Pos}{op op' op2:CmpOp}{r r' r2:R2}(ho:OpR X (compareOp op) r)(ho':OpR X (compareOp op') r')(ho2:OpR X (compareOp op2) r2)(ha:PE X a ta)(hb:PE X b tb)(hc:PE X c tc)(hd:PE X d td)
  (hm:lastMarks [op,op',op2] [b,c,d]=false:=by with_unfolding_all rfl):PT X (.Compare a [op,op',op2] [b,c,d] pos) (tTest (tChain3 r r' r2 ta tb tc td)):=by
 intro pins s σ H Q I h
 refine isTrue_chain (thn (ha pins s σ H _ I h) fun v s1 ⟨x,H1,I1,r1,q1⟩=>test_link (thn (hb pins s1 σ H1 _ I1 q1) fun u s2 ⟨y,H2,I2,r2',q2⟩=>
  thn (ho pins s2 σ H2 x y v u _ I2 r1 r2' q2) fun e s3 ⟨z,H3,I3,r3,k,ek,q3⟩=>?_)) hm
 subst ek
 cases r3
 refine wpAny_truthy_bool ?_
 cases k with
 | false=>
  obtain⟨k',e',q'⟩:=q3
  cases e'
  exact ite_ff ⟨H3,I3,q'⟩
 | true=>
  refine ite_tt (test_link (thn (hc pins s3 σ H3 _ I3 q3) fun w' s4 ⟨z',H4,I4,r4,q4⟩=>thn (ho' pins s4 σ H4 y z' u w' _ I4 r2' r4 q4) fun d' s5 ⟨z2,H5,I5,r5,k2,e2,q5⟩=>?_))
  subst e2
  cases r5
  refine wpAny_truthy_bool ?_
  cases k2 with
  | false=>
   obtain⟨k',e',q'⟩:=q5
   cases e'
   exact ite_ff ⟨H5,I5,q'⟩
  | true=>
   refine ite_tt (test_last (thn (hd pins s5 σ H5 _ I5 q5) fun w2 s6 ⟨z6,H6,I6,r6,q6⟩=>thn (ho2 pins s6 σ H6 z' z6 w' w2 _ I6 r4 r6 q6) fun d7 s7 ⟨z7,H7,I7,r7,k7,e7,q7⟩=>?_))
   subst e7
   cases r7
   exact wpAny_truthy_bool ⟨H7,I7,q7⟩
def rngZ(lo:Int)(n:Nat):List Int:=(List.range n).map fun (i:Nat)=>lo+(i:Int)
theorem vals_at:∀ {xs:List V} {us:List Value},xs.length=us.length->(∀ (j:Nat) x u,xs[j]? = some x->us[j]? = some u->RelV x u)->Vals xs us
 | [],[],_,_=>.nil
 | [],_::_,h,_=>by simp at h
 | _::_,[],h,_=>by simp at h
 | x::xs,u::us,h,f=>.cons (f 0 x u rfl rfl) (vals_at (by simpa using h) fun j a b ha hb=>f (j+1) a b (by simpa using ha) (by simpa using hb))
theorem items_vals{lo:Int}{n:Nat}{acc:Array Value}(h:ItemsOf (fun i v=>∃ t,v=.int (lo+i * 1) t) acc n):Vals ((rngZ lo n).map V.int) acc.toList:=by
 refine vals_at (by simp [rngZ,h.1]) fun j x u hx hu=>?_
 obtain⟨t,rfl⟩:=h.2 j u (by simpa using hu)
 have hj:j<n:=by
  have:=(List.getElem?_eq_some_iff.mp hx).1
  simpa [rngZ] using this
 have e:((rngZ lo n).map V.int)[j]? = some (.int (lo+(j:Int))):=by simp [rngZ,hj]
 rw [e] at hx
 cases hx
 exact⟨t,by simp⟩
theorem call_rng1:CallR X (.type "range") (fun xs H Q=>∃ j:Int,xs=[.int j]/\∀ p,H p=none->Q (.ref p) (upd H p (.rng 0 j))):=by
 intro pins s σ H xs us Q I r h
 obtain⟨j,rfl,q⟩:=h
 obtain⟨u,rfl,t,rfl⟩:=vals1 r
 exact call_range_1 ⟨.ref s.heap.objs.size,_,I.laid (fun b o e=>Heap.get?_push_of_some _ e) (Nat.le_refl _) (show ObjOk X.prog X.w _ _ _ (.rng 0 j) from ⟨_,_,_,Heap.get?_push_size _ rfl⟩),rfl,q _ (I.hok.fresh (Nat.le_refl _))⟩
theorem call_list_rng (hc:X.calm=true):CallR X (.type "list") (fun xs H Q=>∃ p lo hi,xs=[.ref p]/\H p=some (.rng lo hi)/\(-(2 ^ 30)<=lo/\lo<2 ^ 30/\-(2 ^ 30)<=hi/\hi<2 ^ 30/\(hi - lo).toNat<=1000) ∧
  ∀ l,H l=none->Q (.ref l) (upd H l (.lst ((rngZ lo (hi - lo).toNat).map V.int)))):=by
 intro pins s σ H xs us Q I r h
 obtain⟨p,lo,hi,rfl,hp,⟨b1,b2,b3,b4,b5⟩,q⟩:=h
 obtain⟨u,rfl,rx⟩:=vals1 r
 cases rx
 obtain⟨t,u,v,e⟩:=(show ObjOk X.prog X.w H s.heap p (.rng lo hi) from I.hok p _ hp)
 have hn:Builtin.Range.rangeSize lo hi 1=(((hi - lo).toNat:Nat):Int):=by rw [rangeSize_one];split<;>omega
 refine call_list_range (n:=(hi - lo).toNat) (I.ok.hd hc) (show IsRange s.heap p lo hi 1 t u v from e) (small_one (by omega) (by omega) (by omega) (by omega)) hn (by omega) fun h' tk acc' c' kp e' hit=>?_
 have hv:=items_vals hit
 have hz:((rngZ lo (hi - lo).toNat).map V.int).length<=sizeLine:=by
  rw [List.length_map,rngZ,List.length_map,List.length_range]
  exact Nat.le_of_lt (small1000 b5)
 exact⟨.ref s.heap.objs.size,_,I.laid kp (Nat.le_refl _) (show ObjOk X.prog X.w _ h' _ (.lst _) from ⟨hz,acc'.toList,c',hv,by simpa using e'⟩),rfl,q _ (I.hok.fresh (Nat.le_refl _))⟩
end
structure Fn (K:PySem.W.Frag) (mg:Str->Option Value) (x:Str) (st:Stmt) (ps:List Str):Prop where
 ex:∃ f fd,Fun K x x st f fd/\mg x=some (.ref f)/\Binds K fd ps []
structure Def (P:Program) (w:World) (K:PySem.W.Frag) (mg:Str->Option Value) (base:Heap) (k:Nat) (x:Str) (st:Stmt) (ps:List Str) (sp:Sp):Prop where
 ex:∃ f fd,Fun K x x st f fd/\mg x=some (.ref f)/\Binds K fd ps []/\FnOk P w K mg base CX0 k f fd ps sp
theorem Fn.mk'{P:Program}{w:World}{K:PySem.W.Frag}{mg:Str->Option Value}{base:Heap}{k:Nat}{x:Str}{st:Stmt}{ps:List Str}{sp:Sp}(E:Fn K mg x st ps)
  (h:∀ f fd,Fun K x x st f fd->FnOk P w K mg base CX0 k f fd ps sp):Def P w K mg base k x st ps sp:=by
 obtain⟨f,fd,F,m,b⟩:=E.ex
 exact⟨f,fd,F,m,b,h f fd F⟩
theorem Same.new{H H2:Hp}{l:Addr}{o:HO}(s:Same H H2)(h:H l=none):Same H (upd H2 l o):=fun b u e=>by rw [upd_ne (ne_of_none e h)];exact s b u e
theorem paired_snoc{α β:Type}{R:α->β->Prop}:∀ {xs:List α} {ys:List β} {x:α} {y:β},Paired R xs ys->R x y->Paired R (xs++[x]) (ys++[y])
 | _,_,_,_,.nil,h=>.cons h .nil
 | _,_,_,_,.cons r t,h=>.cons r (paired_snoc t h)
theorem paired_imp{α β:Type}{R S:α->β->Prop}:∀ {xs:List α} {ys:List β},Paired R xs ys->(∀ a b,R a b->S a b)->Paired S xs ys
 | _,_,.nil,_=>.nil
 | _,_,.cons r t,f=>.cons (f _ _ r) (paired_imp t f)
theorem paired_get{α β:Type}{R:α->β->Prop}:∀ {xs:List α} {ys:List β} {i:Nat} {x:α},Paired R xs ys->xs[i]? = some x->∃ y,ys[i]? = some y/\R x y
 | _,_,_,_,.nil,e=>by simp at e
 | _,_,0,_,.cons r _,e=>by simp at e;subst e;exact⟨_,rfl,r⟩
 | _,_,i+1,x,.cons _ t,e=>by
  obtain⟨y,h1,h2⟩:=paired_get (i:=i) (x:=x) t (by simpa using e)
  exact⟨y,by simpa using h1,h2⟩
theorem pe_globI {X:Cx} {x:Str} {i:Int} {pos:Pos} (hg:Gl X x) (hm:∃ t,X.mg x=some (.int i t)) (hd:(x==("__debug__":Str))=false:=by decide):PE X (.Name x pos) (tC (.int i)):=
 let ⟨t,h⟩:=hm
 pe_glob hg h ⟨t,rfl⟩ hd
theorem pe_callD{X:Cx}{k:Nat}{x:Str}{st:Stmt}{ps:List Str}{sp:Sp}{e:Expr}{es:List Expr}{t:TA}{p pos:Pos}(D:Def X.prog X.w X.K X.mg X.base k x st ps sp)(hr:Room k X.A)(hg:Gl X x)(ha:PA X (e::es) t)
  (hdb:(x==("__debug__":Str))=false:=by decide) (he:starEach (e::es) X.env=(false,eval e X.env)::starEach es X.env:=by rfl) (hpl:(backTo pos (starEach es X.env)).any (·.1)=false:=by rfl) :
  PE X (.Call (.Name x p) (e::es) [] pos) (tCall sp [] E0 t):=by
 obtain⟨f,fd,F,m,b,G⟩:=D.ex
 exact pe_call G hr hg m F.kp b .nil pass0 ha hdb he hpl
section
variable {σ:St} {H:Hp} {Q:VK} {D:Ends}
theorem w_var0{v:V}:tVar 0 (some v::σ) H Q=Q v H:=propext ⟨fun ⟨_,e,h⟩=>by cases e;exact h,fun h=>⟨v,rfl,h⟩⟩
theorem w_varS{i:Nat}{x:Option V}:tVar (i+1) (x::σ) H Q=tVar i σ H Q:=rfl
theorem w_c{v:V}:tC v σ H Q=Q v H:=rfl
theorem w_op{r:R2}{ta tb:TE}:tOp r ta tb σ H Q=ta σ H fun x H1=>tb σ H1 fun y H2=>r x y H2 Q:=rfl
theorem w_un{r:V->Hp->VK->Prop}{ta:TE}:tUn r ta σ H Q=ta σ H fun x H1=>r x H1 Q:=rfl
theorem w_I0{g:Int->Int->V}{i j:Int}:rI0 g (.int i) (.int j) H Q=Q (g i j) H:=propext ⟨fun ⟨_,_,e,e',h⟩=>by cases e;cases e';exact h,fun h=>⟨i,j,rfl,rfl,h⟩⟩
theorem w_I{C:Int->Int->Prop}{g:Int->Int->V}{i j:Int}:rI C g (.int i) (.int j) H Q=(C i j/\Q (g i j) H):=propext ⟨fun ⟨_,_,e,e',h⟩=>by cases e;cases e';exact h,fun h=>⟨i,j,rfl,rfl,h⟩⟩
theorem w_U{g:Int->V}{i:Int}:rU g (.int i) H Q=Q (g i) H:=propext ⟨fun ⟨_,e,h⟩=>by cases e;exact h,fun h=>⟨i,rfl,h⟩⟩
theorem w_eqI{i j:Int}:rEq (.int i) (.int j) H Q=Q (.bl (decide (i=j))) H:=propext ⟨fun ⟨_,h⟩=>by simpa using h,fun h=>⟨rfl,by simpa using h⟩⟩
theorem w_neI{i j:Int}:rNe (.int i) (.int j) H Q=Q (.bl (!decide (i=j))) H:=propext ⟨fun ⟨_,h⟩=>by simpa using h,fun h=>⟨rfl,by simpa using h⟩⟩
theorem w_eqS{i j:Str}:rEq (.str i) (.str j) H Q=Q (.bl (decide (i=j))) H:=propext ⟨fun ⟨_,h⟩=>by simpa using h,fun h=>⟨rfl,by simpa using h⟩⟩
theorem w_neS{i j:Str}:rNe (.str i) (.str j) H Q=Q (.bl (!decide (i=j))) H:=propext ⟨fun ⟨_,h⟩=>by simpa using h,fun h=>⟨rfl,by simpa using h⟩⟩
theorem w_eqB{i j:Bool}:rEq (.bl i) (.bl j) H Q=Q (.bl (decide (i=j))) H:=propext ⟨fun ⟨_,h⟩=>by simpa using h,fun h=>⟨rfl,by simpa using h⟩⟩
theorem w_neB{i j:Bool}:rNe (.bl i) (.bl j) H Q=Q (.bl (!decide (i=j))) H:=propext ⟨fun ⟨_,h⟩=>by simpa using h,fun h=>⟨rfl,by simpa using h⟩⟩
theorem w_exB{b:Bool}{q:Bool->Prop}:(∃ k,V.bl b=.bl k/\q k)=q b:=propext ⟨fun ⟨_,e,h⟩=>by cases e;exact h,fun h=>⟨b,rfl,h⟩⟩
theorem w_exI{b:Int}{q:Int->Prop}:(∃ k,V.int b=.int k/\q k)=q b:=propext ⟨fun ⟨_,e,h⟩=>by cases e;exact h,fun h=>⟨b,rfl,h⟩⟩
theorem w_addS{i j:Str}{q:Str->Str->Prop}:(∃ a b,V.str i=.str a/\V.str j=.str b/\q a b)=q i j:=
 propext ⟨fun ⟨_,_,e,e',h⟩=>by cases e;cases e';exact h,fun h=>⟨i,j,rfl,rfl,h⟩⟩
theorem w_K{CX:CXT}{P:Program}{w:World}{K:PySem.W.Frag}{mg:Str->Option Value}{base:Heap}{N:List Str}{qual:Str}{scope:Scope}{f:Addr}{cd:Value}{A:Around}{outer:List Env}{s:Shared}{H:Hp}{E:XK}:(cxOf CX P w K mg base N qual scope f cd A outer s H E).K=K:=rfl
theorem w_aug{i:Nat}{te:TE}{ti:TIp}:tAug i te ti D σ H=tVar i σ H fun x _=>te σ H fun y H1=>ti x y H1 fun z H2=>D.nx (σ.set i (some z)) H2:=rfl
theorem w_ip{f:Int->Int->Int}{i j:Int}:ipI f (.int i) (.int j) H Q=Q (.int (f i j)) H:=propext ⟨fun ⟨_,_,e,e',h⟩=>by cases e;cases e';exact h,fun h=>⟨i,j,rfl,rfl,h⟩⟩
theorem w_exB2{a b:Bool}{q:Bool->Bool->Prop}:(∃ c d,V.bl a=.bl c/\V.bl b=.bl d/\q c d)=q a b:=propext ⟨fun ⟨_,_,e,e',h⟩=>by cases e;cases e';exact h,fun h=>⟨a,b,rfl,rfl,h⟩⟩
theorem w_exR{a:Addr}{q:Addr->Prop}:(∃ b,V.ref a=.ref b/\q b)=q a:=propext ⟨fun ⟨_,e,h⟩=>by cases e;exact h,fun h=>⟨a,rfl,h⟩⟩
theorem w_exR2{α:Type}{a:Addr}{q:Addr->α->Prop}:(∃ b y,V.ref a=.ref b/\q b y)=∃ y,q a y:=propext ⟨fun ⟨_,y,e,h⟩=>by cases e;exact⟨y,h⟩,fun ⟨y,h⟩=>⟨a,y,rfl,h⟩⟩
theorem w_ex1I{i:Int}{q:Int->Prop}:(∃ j,[V.int i]=[.int j]/\q j)=q i:=propext ⟨fun ⟨_,e,h⟩=>by cases e;exact h,fun h=>⟨i,rfl,h⟩⟩
theorem w_ex1S{i:Str}{q:Str->Prop}:(∃ j,[V.str i]=[.str j]/\q j)=q i:=propext ⟨fun ⟨_,e,h⟩=>by cases e;exact h,fun h=>⟨i,rfl,h⟩⟩
theorem w_ex1R{α:Type}{i:Addr}{q:Addr->α->Prop}:(∃ j y,[V.ref i]=[.ref j]/\q j y)=∃ y,q i y:=propext ⟨fun ⟨_,y,e,h⟩=>by cases e;exact⟨y,h⟩,fun ⟨y,h⟩=>⟨i,y,rfl,h⟩⟩
theorem w_ex2R{α β:Type}{i:Addr}{q:Addr->α->β->Prop}:(∃ j y z,[V.ref i]=[.ref j]/\q j y z)=∃ y z,q i y z:=propext ⟨fun ⟨_,y,z,e,h⟩=>by cases e;exact⟨y,z,h⟩,fun ⟨y,z,h⟩=>⟨i,y,z,rfl,h⟩⟩
theorem w_ex2I{i j:Int}{q:Int->Int->Prop}:(∃ a b,[V.int i,V.int j]=[.int a,.int b]/\q a b)=q i j:=propext ⟨fun ⟨_,_,e,h⟩=>by cases e;exact h,fun h=>⟨i,j,rfl,h⟩⟩
theorem w_int1{b:Bool}{q:Int->Prop}{r:Bool->Prop}:((∃ i,[V.bl b]=[.int i]/\q i)\/∃ k,[V.bl b]=[.bl k]/\r k)=r b:=
 propext ⟨fun h=>by rcases h with ⟨_,e,_⟩ | ⟨_,e,h⟩<;>cases e;exact h,fun h=>.inr ⟨b,rfl,h⟩⟩
theorem w_ixS{z:Str}{i:Int}:rIxS (.str z) (.int i) H Q=(z.length<=sizeLine/\∃ c,atI z.cps.toList i=some c/\Q (.str ⟨#[c]⟩) H):=
 propext ⟨fun ⟨_,_,c,e,e',h1,h2,h3⟩=>by cases e;cases e';exact⟨h1,c,h2,h3⟩,fun ⟨h1,c,h2,h3⟩=>⟨z,i,c,rfl,rfl,h1,h2,h3⟩⟩
theorem w_ixL{K:PySem.W.Frag}{p:Addr}{i:Int}:rIxL K (.ref p) (.int i) H Q=∃ xs v,SqL K H p xs/\atI xs i=some v/\Q v H:=
 propext ⟨fun ⟨_,xs,_,v,e,e',h⟩=>by cases e;cases e';exact⟨xs,v,h⟩,fun ⟨xs,v,h⟩=>⟨p,xs,i,v,rfl,rfl,h⟩⟩
theorem w_ixT{K:PySem.W.Frag}{p:Addr}{i:Int}:rIxT K (.ref p) (.int i) H Q=∃ xs v,SqT K H p xs/\atI xs i=some v/\Q v H:=
 propext ⟨fun ⟨_,xs,_,v,e,e',h⟩=>by cases e;cases e';exact⟨xs,v,h⟩,fun ⟨xs,v,h⟩=>⟨p,xs,i,v,rfl,rfl,h⟩⟩
theorem w_app{l:Addr}{y:V}:rAppend (.ref l) [y] H Q=∃ xs,H l=some (.lst xs)/\xs.length<sizeLine/\Q .non (upd H l (.lst (xs++[y]))):=
 propext ⟨fun ⟨_,xs,_,e,e',h⟩=>by cases e;cases e';exact⟨xs,h⟩,fun ⟨xs,h⟩=>⟨l,xs,y,rfl,rfl,h⟩⟩
theorem w_pop{l:Addr}:rPop (.ref l) [] H Q=∃ xs y,H l=some (.lst xs)/\xs[xs.length - 1]? = some y/\Q y (upd H l (.lst xs.dropLast)):=
 propext ⟨fun ⟨_,xs,y,e,_,h⟩=>by cases e;exact⟨xs,y,h⟩,fun ⟨xs,y,h⟩=>⟨l,xs,y,rfl,rfl,h⟩⟩
theorem got_map{α:Type}{f:α->V}{l:List α}{k:Nat}{y:V}(h:(l.map f)[k]? = some y):∃ x,l[k]? = some x/\y=f x:=by
 rw [List.getElem?_map] at h
 cases e:l[k]? with
 | none=>rw [e] at h;cases h
 | some x=>rw [e] at h;exact⟨x,rfl,(Option.some.inj h).symm⟩
theorem w_tyL {K:PySem.W.Frag} {l:Addr} {xs:List V} (h:H l=some (.lst xs)):tyV K "list" (.ref l) H:=.inl ⟨rfl,xs,SqL.of h⟩
theorem w_test{t:TE}{q:Bool->Hp->Prop}:tTest t σ H q=t σ H fun x H'=>∃ k,x=.bl k/\q k H':=rfl
theorem w_tB{t:TE}{q:Bool->Hp->Prop}:tB t σ H q=t σ H fun x H'=>∃ k,x=.bl k/\q k H':=rfl
theorem w_and{t u:TT}{q:Bool->Hp->Prop}:tAnd t u σ H q=t σ H fun c H1=>if c=true then u σ H1 q else q false H1:=rfl
theorem w_or{t u:TT}{q:Bool->Hp->Prop}:tOr t u σ H q=t σ H fun c H1=>if c=true then q true H1 else u σ H1 q:=rfl
theorem w_not{t:TT}{q:Bool->Hp->Prop}:tNot t σ H q=t σ H fun c H1=>q (!c) H1:=rfl
theorem w_andV{ta tb:TE}:tAndV ta tb σ H Q=ta σ H fun x H1=>∃ c,x=.bl c/\if c=true then tb σ H1 Q else Q (.bl false) H1:=rfl
theorem w_orV{ta tb:TE}:tOrV ta tb σ H Q=ta σ H fun x H1=>∃ c,x=.bl c/\if c=true then Q (.bl true) H1 else tb σ H1 Q:=rfl
theorem w_notV{ta:TE}:tNotV ta σ H Q=ta σ H fun x H1=>∃ c,x=.bl c/\Q (.bl (!c)) H1:=rfl
theorem w_if{t:TT}{ta tb:TE}:tIf t ta tb σ H Q=t σ H fun c H1=>if c=true then ta σ H1 Q else tb σ H1 Q:=rfl
theorem w_seq{t u:TS}:tSeq t u D σ H=t { nx:=u D,rt:=D.rt,bk:=D.bk,ct:=D.ct } σ H:=rfl
theorem w_next:tNext D σ H=D.nx σ H:=rfl
theorem w_brk:tBreak D σ H=D.bk σ H:=rfl
theorem w_cont:tCont D σ H=D.ct σ H:=rfl
theorem w_drop{te:TE}:tDrop te D σ H=te σ H fun _ H1=>D.nx σ H1:=rfl
theorem w_ret{te:TE}:tRet te D σ H=te σ H D.rt:=rfl
theorem w_retN:tRetN D σ H=D.rt .non H:=rfl
theorem w_ifS{c:TT}{t u:TS}:tIfS c t u D σ H=c σ H fun b H1=>if b=true then t D σ H1 else u D σ H1:=rfl
theorem w_asg{te:TE}{g:TG}:tAsg te g D σ H=te σ H fun x H1=>g x σ H1 D.nx:=rfl
theorem w_gName{i:Nat}{v:V}{q:St->Hp->Prop}:gName i v σ H q=q (σ.set i (some v)) H:=rfl
theorem w_set0{v:V}{x:Option V}:List.set (x::σ) 0 (some v)=some v::σ:=rfl
theorem w_setS{i:Nat}{v:V}{x:Option V}:List.set (x::σ) (i+1) (some v)=x::List.set σ i (some v):=rfl
theorem w_nil{q:List V->Hp->Prop}:tNil σ H q=q [] H:=rfl
theorem w_cons{ta:TE}{tr:TA}{q:List V->Hp->Prop}:tCons ta tr σ H q=ta σ H fun x H1=>tr σ H1 fun xs H2=>q (x::xs) H2:=rfl
theorem w_cb{r:List V->Hp->VK->Prop}{t:TA}:tCB r t σ H Q=t σ H fun vs H1=>r vs H1 Q:=rfl
theorem w_tup{t:TA}:tTup t σ H Q=t σ H fun xs H1=>xs.length<=sizeLine/\∀ p,H1 p=none->Q (.ref p) (upd H1 p (.tup xs)):=rfl
theorem w_lst{t:TA}:tLst t σ H Q=t σ H fun xs H1=>xs.length<=sizeLine/\∀ p,H1 p=none->Q (.ref p) (upd H1 p (.lst xs)):=rfl
theorem w_call{sp:Sp}{dvs:List V}{E:XK}{t:TA}:tCall sp dvs E t σ H Q=t σ H fun vs H1=>sp (vs++dvs) H1 Q E:=rfl
theorem w_bm{K:PySem.W.Frag}{T:String}{r:V->List V->Hp->VK->Prop}{to:TE}{t:TA}:tBM K T r to t σ H Q=to σ H fun x H1=>tyV K T x H1/\t σ H1 fun xs H2=>r x xs H2 Q:=rfl
theorem w_bm0{K:PySem.W.Frag}{T:String}{r:V->List V->Hp->VK->Prop}{to:TE}:tBM0 K T r to σ H Q=to σ H fun x H1=>tyV K T x H1/\r x [] H1 Q:=rfl
def ForJ(J:It)(g:TG)(tb:TS)(D:Ends)(σ:St)(H1:Hp):Prop:=∃ W:Nat->Nat->St->Hp->Prop,(∃ m,W 0 m σ H1)/\∀ i m σ H,W i m σ H →
 (J.stop i H/\D.nx σ H)\/(J.go i H/\∃ N:St->Hp->Prop,(∀ σ' H',N σ' H'->∃ m',m'<m/\W (i+1) m' σ' H')/\∀ x H',J.yld i H x H'->g x σ H' fun σ2 H2=>tb { D with nx:=N,ct:=N,bk:=D.nx } σ2 H2)
theorem w_for1{ta:TA}{g:TG}{tb:TS}:tFor (iRng1 ta) g tb D σ H=ta σ H fun vs H1=>∃ j:Int,vs=[.int j]/\-(2 ^ 62)<=j/\j<2 ^ 62/\ForJ (Itr 0 j.toNat) g tb D σ H1:=rfl
theorem w_for2{ta:TA}{g:TG}{tb:TS}:tFor (iRng2 ta) g tb D σ H=ta σ H fun vs H1=>∃ i j:Int,vs=[.int i,.int j]/\(-(2 ^ 62)<=i/\i<2 ^ 62/\-(2 ^ 62)<=j/\j<2 ^ 62)/\ForJ (Itr i (j - i).toNat) g tb D σ H1:=rfl
theorem w_forL{K:PySem.W.Frag}{tl:TE}{g:TG}{tb:TS}:tFor (iList K tl) g tb D σ H=tl σ H fun x H1=>∃ a,x=.ref a/\(∃ xs,SqL K H1 a xs)/\ForJ (Itl K a) g tb D σ H1:=rfl
theorem w_forT{K:PySem.W.Frag}{tl:TE}{g:TG}{tb:TS}:tFor (iTup K tl) g tb D σ H=tl σ H fun x H1=>∃ a,x=.ref a/\(∃ xs,SqT K H1 a xs)/\ForJ (Itt K a) g tb D σ H1:=rfl
theorem w_gTup{K:PySem.W.Frag}{n:Nat}{t:TGs}{v:V}{q:St->Hp->Prop}:gTup K n t v σ H q=∃ a xs,v=.ref a/\SqT K H a xs/\xs.length=n/\t xs σ H q:=rfl
theorem w_gNil{q:St->Hp->Prop}:gNil [] σ H q=q σ H:=propext ⟨fun h=>h.2,fun h=>⟨rfl,h⟩⟩
theorem w_gCons{t:TG}{u:TGs}{v:V}{r:List V}{q:St->Hp->Prop}:gCons t u (v::r) σ H q=t v σ H fun σ' H'=>u r σ' H' q:=propext ⟨fun ⟨_,_,e,h⟩=>by cases e;exact h,fun h=>⟨v,r,rfl,h⟩⟩
theorem w_chain3{r r' r2:R2}{ta tb tc td:TE}:tChain3 r r' r2 ta tb tc td σ H Q=ta σ H fun x H1=>tb σ H1 fun y H2=>r x y H2 fun z H3=>∃ k,z=.bl k ∧
 (if k=true then tc σ H3 fun w' H4=>r' y w' H4 fun z2 H5=>∃ k2,z2=.bl k2/\(if k2=true then td σ H5 fun e H6=>r2 w' e H6 Q else Q (.bl false) H5) else Q (.bl false) H3):=rfl
theorem w_chain{r r':R2}{ta tb tc:TE}:tChain r r' ta tb tc σ H Q=ta σ H fun x H1=>tb σ H1 fun y H2=>r x y H2 fun z H3=>∃ k,z=.bl k ∧
 (if k=true then tc σ H3 fun w' H4=>r' y w' H4 Q else Q (.bl false) H3):=rfl
end
theorem us1{P:List Value->Prop}(h:∀ a:Value,P [a]):∀ us:List Value,us.length=1->P us
 | [a],_=>h a
theorem usS{P:List Value->Prop}{n:Nat}(h:∀ (a:Value) (r:List Value),r.length=n->P (a::r)):∀ us:List Value,us.length=n+1->P us
 | a::r,e=>h a r (Nat.succ.inj e)
theorem us2{P:List Value->Prop}(h:∀ a b:Value,P [a,b]):∀ us:List Value,us.length=2->P us:=usS fun a=>us1 fun b=>h a b
theorem us3{P:List Value->Prop}(h:∀ a b c:Value,P [a,b,c]):∀ us:List Value,us.length=3->P us:=usS fun a=>us2 fun b c=>h a b c
end L2
namespace Rm
def dl(b:Bool):Int:=if b then 1 else -1
def D(bs:List Bool)(i:Nat):Int:=((bs.take i).map dl).sum
theorem D_zero(bs:List Bool):D bs 0=0:=by simp [D]
theorem D_succ{bs:List Bool}{i:Nat}{b:Bool}(h:bs[i]? = some b):D bs (i+1)=D bs i+dl b:=by
 obtain⟨hi,e⟩:=List.getElem?_eq_some_iff.mp h
 unfold D
 rw [List.take_add_one,h]
 simp
theorem D_append{xs ys:List Bool}{i:Nat}(h:i<=xs.length):D (xs++ys) i=D xs i:=by
 unfold D
 rw [List.take_append_of_le_length h]
theorem D_snoc(xs:List Bool)(b:Bool):D (xs++[b]) (xs.length+1)=D xs xs.length+dl b:=by
 rw [D_succ (b:=b) (by simp),D_append (Nat.le_refl _)]
structure Bal (bs:List Bool):Prop where
 nn:∀ i,i<=bs.length->0<=D bs i
 z:D bs bs.length=0
structure Grow (bs:List Bool) (deep:Int) (room:Int):Prop where
 nn:∀ i,i<=bs.length->0<=D bs i
 d:D bs bs.length=deep
 le:deep<=room
 ev:(room - deep) % 2=0
theorem Grow.start(n:Int)(h:0<=n):Grow [] 0 (2 * n):=⟨fun i hi=>by simp [D],by simp [D],by omega,by omega⟩
theorem Grow.snoc{bs:List Bool}{deep room:Int}(g:Grow bs deep room)(b:Bool)(h0:0<=deep+dl b)(h1:deep+dl b<=room - 1):Grow (bs++[b]) (deep+dl b) (room - 1):=by
 refine⟨fun i hi=>?_,?_,h1,?_⟩
 ·rw [List.length_append,List.length_singleton] at hi
  by_cases e:i<=bs.length
  ·rw [D_append e];exact g.nn i e
  ·have:i=bs.length+1:=by omega
   subst this
   rw [D_snoc,g.d];exact h0
 ·rw [List.length_append,List.length_singleton,D_snoc,g.d]
 ·have:=g.ev
  cases b<;>simp only [dl,if_true,if_false,Bool.false_eq_true]<;>omega
theorem Grow.deep0{bs:List Bool}{deep room:Int}(g:Grow bs deep room):0<=deep:=by
 have:=g.nn bs.length (Nat.le_refl _);rw [g.d] at this;exact this
theorem Grow.opens{bs:List Bool}{deep room:Int}(g:Grow bs deep room)(hr:0<room)(h:deep=0\/deep<room):Grow (bs++[true]) (deep+1) (room - 1):=by
 have h0:=g.deep0
 have h1:=g.ev
 have h2:=g.le
 exact g.snoc true (by simp only [dl,if_true];omega) (by simp only [dl,if_true];omega)
theorem Grow.closes{bs:List Bool}{deep room:Int}(g:Grow bs deep room)(h:deep≠0):Grow (bs++[false]) (deep - 1) (room - 1):=by
 have h0:=g.deep0
 have h2:=g.le
 have:=g.snoc false (by simp only [dl,Bool.false_eq_true,if_false];omega) (by simp only [dl,Bool.false_eq_true,if_false];omega)
 simpa only [dl,Bool.false_eq_true,if_false,<-Int.sub_eq_add_neg] using this
theorem Grow.bal{bs:List Bool}{deep room:Int}(g:Grow bs deep room)(h:room=0):Bal bs:=
 ⟨g.nn,by have:=g.deep0;have:=g.le;rw [g.d];omega⟩
structure Mate (bs:List Bool) (k m:Nat):Prop where
 lt:k<m
 ml:m<bs.length
 op:bs[k]? = some true
 cl:bs[m]? = some false
 eq:D bs (m+1)=D bs k
 gt:∀ i,k<i->i<=m->D bs k<D bs i
theorem Mate.uniq{bs:List Bool}{k m m':Nat}(a:Mate bs k m)(b:Mate bs k m'):m=m':=by
 have h1:¬ m<m':=fun h=>by have:=b.gt (m+1) (by have:=a.lt;omega) h;rw [a.eq] at this;omega
 have h2:¬ m'<m:=fun h=>by have:=a.gt (m'+1) (by have:=b.lt;omega) h;rw [b.eq] at this;omega
 omega
theorem Mate.uniqL{bs:List Bool}{k k' m:Nat}(a:Mate bs k m)(b:Mate bs k' m):k=k':=by
 have h1:¬ k<k':=fun h=>by
  have:=a.gt k' h (by have:=b.lt;omega)
  have e:=a.eq;have e':=b.eq;rw [e] at e';omega
 have h2:¬ k'<k:=fun h=>by
  have:=b.gt k h (by have:=a.lt;omega)
  have e:=a.eq;have e':=b.eq;rw [e] at e';omega
 omega
structure Walk (bs:List Bool) (k j:Nat) (deep:Int):Prop where
 op:bs[k]? = some true
 kj:k<=j
 jl:j<=bs.length
 d:deep=D bs j - D bs k
 gt:∀ i,k<i->i<j->D bs k<D bs i
theorem Walk.start{bs:List Bool}{k:Nat}(h:bs[k]? = some true):Walk bs k k 0:=
 ⟨h,Nat.le_refl _,by have:=(List.getElem?_eq_some_iff.mp h).1;omega,by omega,fun i h1 h2=>by omega⟩
theorem Walk.inside{bs:List Bool}{k j:Nat}{deep:Int}(b:Bal bs)(w:Walk bs k j deep)(h:0<deep\/j=k):j<bs.length:=by
 have hk:=(List.getElem?_eq_some_iff.mp w.op).1
 rcases h with h | h
 ·have e:=w.d
  have h0:=b.nn k (by omega)
  have hj:=w.jl
  by_cases q:j<bs.length
  ·exact q
  ·have:j=bs.length:=by omega
   rw [this,b.z] at e;omega
 ·omega
theorem Walk.step{bs:List Bool}{k j:Nat}{deep:Int}{c:Bool}(w:Walk bs k j deep)(h:0<deep\/j=k)(hc:bs[j]? = some c):Walk bs k (j+1) (deep+dl c):=by
 have hj:=(List.getElem?_eq_some_iff.mp hc).1
 refine⟨w.op,by have:=w.kj;omega,hj,?_,fun i h1 h2=>?_⟩
 ·rw [D_succ hc,w.d];omega
 ·by_cases e:i<j
  ·exact w.gt i h1 e
  ·have:i=j:=by omega
   subst this
   rcases h with h | h
   ·have:=w.d;omega
   ·omega
theorem Walk.mate{bs:List Bool}{k j:Nat}{deep:Int}(w:Walk bs k j deep)(h:¬ (0<deep\/j=k)):∃ m,j=m+1/\Mate bs k m:=by
 have hk:=(List.getElem?_eq_some_iff.mp w.op).1
 have h1:=w.kj
 have hne:j≠k:=fun e=>h (.inr e)
 obtain⟨m,rfl⟩:∃ m,j=m+1:=⟨j - 1,by omega⟩
 have hjl:=w.jl
 have hm:m<bs.length:=by omega
 have hd:deep<=0:=by
  by_cases q:0<deep
  ·exact absurd (.inl q) h
  ·omega
 have e:=w.d
 have hkm:k<m:=by
  rcases Nat.lt_or_ge k m with q | q
  ·exact q
  ·have:k=m:=by omega
   subst this
   rw [D_succ w.op] at e
   simp only [dl,if_true] at e
   omega
 have hg:=w.gt m hkm (by omega)
 obtain⟨c,hc⟩:∃ c,bs[m]? = some c:=⟨bs[m],List.getElem?_eq_getElem hm⟩
 have hs:=D_succ hc
 cases c with
 | true=>simp only [dl,if_true] at hs;omega
 | false=>
  simp only [dl,Bool.false_eq_true,if_false] at hs
  refine⟨m,rfl,hkm,hm,w.op,hc,by omega,fun i a b=>?_⟩
  by_cases q:i=m
  ·subst q;exact hg
  ·exact w.gt i a (by omega)
structure Mates (bs:List Bool) (k:Nat) (ms:List (Nat×Nat)):Prop where
 mate:∀ p∈ms,Mate bs p.1 p.2/\p.1<k
 all:∀ i,i<k->bs[i]? = some true->∃ m,(i,m)∈ms
 inc:ms.Pairwise (fun p q=>p.1<q.1)
 len:ms.length<=k
theorem Mates.nil(bs:List Bool):Mates bs 0 []:=⟨(fun _ h=>nomatch h),fun i h=>by omega,.nil,Nat.le_refl _⟩
theorem Mates.skip{bs:List Bool}{k:Nat}{ms:List (Nat×Nat)}(a:Mates bs k ms)(h:bs[k]?≠some true):Mates bs (k+1) ms:=
 ⟨fun p hp=>⟨(a.mate p hp).1,by have:=(a.mate p hp).2;omega⟩,fun i hi ho=>by
  by_cases e:i=k
  ·subst e;exact absurd ho h
  ·exact a.all i (by omega) ho,a.inc,Nat.le_succ_of_le a.len⟩
theorem Mates.snoc{bs:List Bool}{k m:Nat}{ms:List (Nat×Nat)}(a:Mates bs k ms)(h:Mate bs k m):Mates bs (k+1) (ms++[(k,m)]):=by
 refine⟨fun p hp=>?_,fun i hi ho=>?_,?_,by rw [List.length_append];exact Nat.succ_le_succ a.len⟩
 ·rcases List.mem_append.mp hp with hp | hp
  ·exact⟨(a.mate p hp).1,by have:=(a.mate p hp).2;omega⟩
  ·have:p=(k,m):=by simpa using hp
   subst this
   exact⟨h,Nat.lt_succ_self k⟩
 ·by_cases e:i=k
  ·subst e;exact⟨m,by simp⟩
  ·obtain⟨m',hm⟩:=a.all i (by omega) ho
   exact⟨m',List.mem_append_left _ hm⟩
 ·refine List.pairwise_append.mpr ⟨a.inc,by simp,fun p hp q hq=>?_⟩
  have:q=(k,m):=by simpa using hq
  subst this
  exact (a.mate p hp).2
end Rm
namespace L2
open PySem PySem.Spec PyProof.Rows
theorem Fun.okS{P:Program}{w:World}{K:PySem.W.Frag}{mg:Str->Option Value}{base:Heap}{x qual:Str}{st:Stmt}{f:Addr}{fd:FuncData}{N ps:List Str}{k:Nat}{sp:Sp}(F:Fun K x qual st f fd)(S:FnScope N ps (defScope st))(len:∀ vs H Q E,sp vs H Q E->vs.length=ps.length)
  (hbody:∀ (cdv:Value) (A:Around) (outer:List Env) (s:Shared) (H:Hp) (vs:List V) (Q:VK) (E:XK),Room k (A.deeper (envOfC qual (defScope st) s.heap.objs.size f cdv))->sp vs H Q E →
   ∃ (σ:St) (t:TS),start N vs=σ/\PSs (cxOf CX0 P w K mg base N qual (defScope st) f cdv A outer s H E).nox (defBody st) t/\t { nx:=fun _ H'=>Q .non H',rt:=Q } σ H):FnOk P w K mg base CX0 (k+1) f fd ps sp:=
 F.ok S len fun cdv A outer s H vs Q E hr h=>by
  obtain⟨σ,t,e,h1,h2⟩:=hbody cdv A outer s H vs Q E hr h
  exact⟨t,h1,by rw [e];exact h2⟩
theorem hu_64{A:Around}{k:Nat}(hr:Room k A):A.units+64<cLine:=hr.units
end L2
namespace Rm
open PySem L2
def cpB(b:Bool):Nat:=if b then 40 else 41
def wd(bs:List Bool):Str:=⟨(bs.map cpB).toArray⟩
theorem wd_length(bs:List Bool):(wd bs).length=bs.length:=by simp [wd,Str.length]
theorem str_open:(Str.ofString "(")=⟨#[40]⟩:=by decide +kernel
theorem str_close:(Str.ofString ")")=⟨#[41]⟩:=by decide +kernel
theorem str_nil:(Str.ofString "")=⟨#[]⟩:=by decide +kernel
theorem len_open:(Str.ofString "(").length=1:=by rw [str_open];rfl
theorem len_close:(Str.ofString ")").length=1:=by rw [str_close];rfl
theorem wd_nil:wd []=Str.ofString "":=by rw [str_nil];rfl
theorem wd_open (bs:List Bool):wd bs++Str.ofString "("=wd (bs++[true]):=by
 rw [str_open]
 show Str.mk _=Str.mk _
 simp [wd,cpB]
theorem wd_close (bs:List Bool):wd bs++Str.ofString ")"=wd (bs++[false]):=by
 rw [str_close]
 show Str.mk _=Str.mk _
 simp [wd,cpB]
theorem sign_open (b:Bool):((⟨#[cpB b]⟩:Str)=Str.ofString "(")=(b=true):=by
 rw [str_open]
 cases b<;>simp [cpB]
def scan:List Nat->Int->Bool
 | [],w=>decide (w=0)
 | c::r,w=>if c=40 then scan r (w+1) else if c=41 then (if w - 1<0 then false else scan r (w - 1)) else false
def isW(z:Str):Bool:=decide (z.length<=40)&&scan z.cps.toList 0
theorem scan_bal:∀ (bs pre:List Bool) (w:Int),w=D (pre++bs) pre.length->Bal (pre++bs)->scan (bs.map cpB) w=true
 | [],pre,w,hw,b=>by
  have:=b.z
  rw [List.append_nil] at this hw
  show decide (w=0)=true
  exact decide_eq_true (by rw [hw,this])
 | x::bs,pre,w,hw,b=>by
  have hs:D (pre++x::bs) (pre.length+1)=D (pre++x::bs) pre.length+dl x:=D_succ (by simp)
  have hn:=b.nn (pre.length+1) (by simp)
  have ih:=fun w' (h:w'=w+dl x)=>scan_bal bs (pre++[x]) w' (by rw [h,hw];simpa using hs.symm) (by simpa using b)
  cases x with
  | true=>
   show (if (40:Nat)=40 then scan (bs.map cpB) (w+1) else _)=true
   rw [if_pos rfl]
   exact ih _ (by simp [dl])
  | false=>
   show (if (41:Nat)=40 then _ else if (41:Nat)=41 then (if w - 1<0 then false else scan (bs.map cpB) (w - 1)) else false)=true
   rw [if_neg (by decide),if_pos rfl,if_neg (by simp only [dl,Bool.false_eq_true,if_false] at hs;omega)]
   exact ih _ (by simp [dl];omega)
theorem wd_codes(bs:List Bool):(wd bs).cps.toList=bs.map cpB:=by simp [wd]
theorem wd_ascii(bs:List Bool):(wd bs).cps.all (·<128)=true:=by
 rw [<-Array.all_toList,wd_codes,List.all_eq_true]
 intro c hc
 obtain⟨b,_,rfl⟩:=List.mem_map.mp hc
 cases b<;>decide
theorem wd_size(bs:List Bool):(wd bs).cps.size=bs.length:=by simp [wd]
theorem isW_wd{bs:List Bool}(b:Bal bs)(h:bs.length<=40):isW (wd bs)=true:=by
 unfold isW
 rw [wd_length,decide_eq_true h,wd_codes,scan_bal bs [] 0 (by simp [D]) b]
 rfl
theorem wd_cps{bs:List Bool}{i c:Nat}(h:(wd bs).cps[i]? = some c):∃ b,bs[i]? = some b/\c=cpB b:=by
 have h1:(wd bs).cps.toList[i]? = some c:=by simpa using h
 rw [wd_codes,List.getElem?_map] at h1
 cases e:bs[i]? with
 | none=>rw [e] at h1;cases h1
 | some b=>rw [e] at h1;exact⟨b,rfl,(Option.some.inj h1).symm⟩
theorem code_open (c:Nat):((⟨#[c]⟩:Str)=Str.ofString "(")=(c=40):=by rw [str_open];simp
theorem code_close (c:Nat):((⟨#[c]⟩:Str)=Str.ofString ")")=(c=41):=by rw [str_close];simp
abbrev Bw:=Int×Int
def tupAt(H:Hp)(a:Addr)(p:Bw):Prop:=H a=some (.tup [.int p.1,.int p.2])
def BowsAt(H:Hp)(l:Addr)(ps:List Bw):Prop:=∃ as:List Addr,H l=some (.lst (as.map V.ref))/\Paired (tupAt H) as ps
theorem tupAt.same{H H':Hp}(s:Same H H'){a:Addr}{p:Bw}(h:tupAt H a p):tupAt H' a p:=s _ _ h
theorem BowsAt.same{H H':Hp}(s:Same H H'){l:Addr}{ps:List Bw}(h:BowsAt H l ps):BowsAt H' l ps:=
 let ⟨as,h1,h2⟩:=h
 ⟨as,s _ _ h1,paired_imp h2 fun _ _ z=>z.same s⟩
theorem bows_snoc{H:Hp}{l t:Addr}{as:List Addr}{ps:List Bw}{x y:Int}(h1:H l=some (.lst (as.map V.ref)))(h2:Paired (tupAt H) as ps)(ht:H t=none):
  BowsAt (upd (upd H t (.tup [.int x,.int y])) l (.lst (as.map V.ref++[V.ref t]))) l (ps++[(x,y)]):=by
 have ntl:t≠l:=fun e=>by subst e;rw [h1] at ht;cases ht
 refine⟨as++[t],by rw [upd_same,List.map_append];rfl,paired_snoc (paired_imp h2 fun a p z=>?_) ?_⟩
 ·have z':H a=some (.tup [.int p.1,.int p.2]):=z
  have n1:a≠l:=ne_of z' h1 (by intro q;cases q)
  have n2:a≠t:=ne_of_none z' ht
  show upd _ _ _ a=_
  rw [upd_ne n1,upd_ne n2];exact z'
 ·show upd _ _ _ t=_
  rw [upd_ne ntl,upd_same]
theorem bows_upd{H:Hp}{l f:Addr}{ps:List Bw}{xs ys:List V}(h:BowsAt H f ps)(hl:H l=some (.lst xs))(ne:f≠l):BowsAt (upd H l (.lst ys)) f ps:=by
 obtain⟨as,h1,h2⟩:=h
 refine⟨as,by rw [upd_ne ne];exact h1,paired_imp h2 fun a p z=>?_⟩
 have z':H a=some (.tup [.int p.1,.int p.2]):=z
 show upd _ _ _ a=_
 rw [upd_ne (ne_of z' hl (by intro q;cases q))];exact z'
theorem bows_copy{H:Hp}{l hd:Addr}{as:List Addr}{ps:List Bw}(h2:Paired (tupAt H) as ps)(hn:H hd=none):BowsAt (upd H hd (.lst (as.map V.ref))) hd ps:=
 ⟨as,upd_same,paired_imp h2 fun a p z=>by
  have z':H a=some (.tup [.int p.1,.int p.2]):=z
  show upd _ _ _ a=_
  rw [upd_ne (ne_of_none z' hn)];exact z'⟩
theorem BowsAt.get{H:Hp}{l:Addr}{ps:List Bw}(h:BowsAt H l ps):∃ as:List Addr,H l=some (.lst (as.map V.ref))/\as.length=ps.length/\∀ (i:Nat) x,(as.map V.ref)[i]? = some x->∃ a p,x=.ref a/\ps[i]? = some p/\tupAt H a p:=by
 obtain⟨as,h1,h2⟩:=h
 refine⟨as,h1,Paired.length h2,fun i x hx=>?_⟩
 rw [List.getElem?_map] at hx
 cases e:as[i]? with
 | none=>rw [e] at hx;cases hx
 | some a=>
  rw [e] at hx
  obtain⟨p,hp,ht⟩:=paired_get h2 e
  exact⟨a,p,(Option.some.inj hx).symm,hp,ht⟩
def bowD(p:Bw):PyData:=.tuple [.int p.1,.int p.2]
def bowsD(ps:List Bw):PyData:=.list (ps.map bowD)
def crossZ(p q:Bw):Bool:=decide (p.1<q.1)&&(decide (q.1<p.2)&&decide (p.2<q.2))
def natV(ws:List Nat):List V:=ws.map fun (n:Nat)=>V.int (n:Int)
theorem natV_len(ws:List Nat):(natV ws).length=ws.length:=by simp [natV]
theorem natV_snoc(ws:List Nat)(k:Nat):natV (ws++[k])=natV ws++[.int k]:=by simp [natV]
theorem natV_drop(ws:List Nat)(k:Nat):(natV (ws++[k])).dropLast=natV ws:=by rw [natV_snoc];simp
theorem natV_last(ws:List Nat)(k:Nat):(natV (ws++[k]))[(natV (ws++[k])).length - 1]? = some (.int k):=by rw [natV_snoc];simp
def msZ(ms:List (Nat×Nat)):List Bw:=ms.map fun p=>((p.1:Int),(p.2:Int))
def spCrossing:Sp:=fun vs H Q _=>∃ l ps,vs=[.ref l]/\BowsAt H l ps/\((∀ p∈ps,∀ q∈ps,crossZ p q=false)->Q .non H) ∧
 ∀ p∈ps,∀ q∈ps,crossZ p q=true->∀ t a b H',H t=none->Same H H'->H' t=some (.tup [.ref a,.ref b])->tupAt H' a p->tupAt H' b q->Q (.ref t) H'
def spIsWord (K:PySem.W.Frag):Sp:=fun vs H Q _=>∃ x:V,vs=[x]/\((∃ z:Str,x=.str z/\z.cps.all (·<128)=true/\z.length<=1000/\Q (.bl (isW z)) H)\/(∃ t:Value,TyOf K H x t/\PySem.W.kitOne K t (.type "str")=some false/\Q (.bl false) H))
def spWhole (K:PySem.W.Frag):Sp:=fun vs H Q _=>∃ (x:V) (t:Value) (b c:Bool),vs=[x]/\TyOf K H x t/\PySem.W.kitOne K t (.type "int")=some b/\PySem.W.kitOne K t (.type "bool")=some c/\Q (.bl (b&&!c)) H
def spLaw(K:PySem.W.Frag):Sp:=fun vs H Q _=>∃ (a:Addr) (ns:List Int),vs=[.ref a]/\SqL K H a (ns.map V.int)/\ns.length<=63/\∀ H',Q (.bl true) H'
end Rm
namespace L2
open PySem PySem.Spec PyProof.Rows
theorem ints_are:∀ {ns:List Int} {us:List Value},Vals (ns.map V.int) us->IntsAre us ns
 | [],_,.nil=>.nil
 | n::ns,_,.cons ⟨t,e⟩ r=>by subst e;exact .cons n t (ints_are r)
theorem vals_bools:∀ {bs:List Bool} {us:List Value},Vals (bs.map V.bl) us->LSm.BoolsAre us bs
 | [],_,.nil=>.nil
 | b::bs,_,.cons r t=>by
  have e:_=Value.bool b:=r
  subst e
  exact .cons b (vals_bools t)
theorem vals_strs:∀ {ts:List Str} {us:List Value},Vals (ts.map V.str) us->∃ l:List (Str×Tok),us=strValues l/\l.map (·.1)=ts
 | [],_,.nil=>⟨[],rfl,rfl⟩
 | t::ts,_,.cons ⟨k,e⟩ r=>by
  subst e
  obtain⟨l,e1,e2⟩:=vals_strs r
  exact⟨(t,k)::l,by rw [e1];rfl,by rw [List.map_cons,e2]⟩
section
variable {X:Cx}
def rSortI(K:PySem.W.Frag):List V->Hp->VK->Prop:=fun xs H Q=>∃ (p:Addr) (ns:List Int),xs=[.ref p]/\SqL K H p (ns.map V.int)/\ns.length<64 ∧
 ∀ (l:Addr) (ms:List Int),H l=none->ms.Perm ns->ms.Pairwise (·<=·)->Q (.ref l) (upd H l (.lst (ms.map V.int)))
theorem call_sorted_ints:CallR X (.builtin "sorted") (rSortI X.K):=by
 intro pins s σ H xs us Q I r h
 obtain⟨p,ns,rfl,hq,hl,q⟩:=h
 obtain⟨u,rfl,rx⟩:=vals1 r
 cases rx
 obtain⟨its,rv,pl,hz⟩:=I.list hq
 have hi:=ints_are rv
 have hlen:its.length=ns.length:=by have:=rv.length;simpa using this.symm
 refine sorted_ints pl.isList hi (by omega) fun out ms hm hp hs=>?_
 obtain⟨c,hc⟩:=sortedAll_at s.heap its out
 have hml:ms.length=ns.length:=hp.length_eq
 exact⟨.ref (s.heap.objs.size+1),upd H (s.heap.objs.size+1) (.lst (ms.map V.int)),I.laid (t':=s.toks) (fun b o e=>sortedAll_old e) (Nat.le_succ _)
  (show ObjOk X.prog X.w _ _ _ (.lst _) from ⟨by rw [List.length_map,hml];exact Nat.le_of_lt (small1000 (by omega)),out.toList,c,vals_ints hm,by simpa using hc⟩),rfl,q _ ms (I.hok.fresh (Nat.le_succ _)) hp hs⟩
def rAll(K:PySem.W.Frag)(f:List Bool->Bool):List V->Hp->VK->Prop:=fun xs H Q=>∃ (p:Addr) (bs:List Bool),xs=[.ref p]/\SqL K H p (bs.map V.bl)/\Q (.bl (f bs)) H
theorem kept_iter'{s:Shared}{h':Heap}{o:Obj}(hk:∀ b x,b∉[s.heap.objs.size]->(s.heap.push o).get? b=some x->h'.get? b=some x):∀ b x,s.heap.get? b=some x->h'.get? b=some x:=
 fun b x e=>hk b x (fun hm=>by rw [List.mem_singleton.mp hm] at e;exact Nat.lt_irrefl _ (Heap.lt_size e)) (Heap.get?_push_of_some _ e)
theorem call_all_bl (hc:X.calm=true):CallR X (.builtin "all") (rAll X.K fun bs=>bs.all id):=by
 intro pins s σ H xs us Q I r h
 obtain⟨p,bs,rfl,hq,q⟩:=h
 obtain⟨u,rfl,rx⟩:=vals1 r
 cases rx
 obtain⟨its,rv,pl,hz⟩:=I.list hq
 have hb:=vals_bools rv
 have hl:=pl.isList
 have hlt:p<s.heap.objs.size:=by obtain⟨_,e,_⟩:=hl;exact Heap.lt_size e
 refine call_all_walk (wpAny_pyIter_list hl ?_)
 refine⟨s.heap.objs.size,[s.heap.objs.size,p],[s.heap.objs.size],its.toArray.size,_,_,fun i=>(bs[i]?).getD true,rfl,Walks.list (A:=X.A.in1) (I.ok.hd hc) _ p (Nat.ne_of_lt hlt) its.toArray,
  ⟨⟨_,Heap.get?_push_size _ rfl,rfl,rfl⟩,hl.push _⟩,fun i v s' Q' E' hP hQ=>?_,fun h' tk hk=>?_⟩
 ·obtain⟨b,e,rfl⟩:=hb.get i v (by simpa using hP)
  simp only [e,Option.getD_some] at hQ
  exact wpAny_truthy_bool hQ
 ·have e1:its.toArray.size=bs.length:=by have:=rv.length;simp at this;simp [this]
  rw [e1,LSm.range_all]
  exact⟨.bl _,H,I.kept (kept_iter' hk),rfl,q⟩
def rJoin(K:PySem.W.Frag):V->List V->Hp->VK->Prop:=fun x vs H Q=>∃ (z:Str) (p:Addr) (ts:List Str),x=.str z/\vs=[.ref p]/\SqL K H p (ts.map V.str)/\JoinOk z ts=true/\Q (.str (Txt.join z ts)) H
theorem mt_join:MtM X "str.join" (rJoin X.K):=by
 intro pins s σ H x xs v us Q I r rv h
 obtain⟨z,p,ts,rfl,rfl,hq,ok,q⟩:=h
 obtain⟨t,rfl⟩:=r
 obtain⟨u,rfl,rx⟩:=vals1 rv
 cases rx
 obtain⟨its,rv',pl,hz⟩:=I.list hq
 obtain⟨l,rfl,e⟩:=vals_strs rv'
 exact SC.join pl.isList e ok fun t' k=>⟨.str _,H,I.tok k,⟨t',rfl⟩,q⟩
end
mutual
inductive Dat (H:Hp):V->PyData->Prop
 | non:Dat H .non .none
 | bl (b:Bool):Dat H (.bl b) (.bool b)
 | int (i:Int):Dat H (.int i) (.int i)
 | str (x:Str):Dat H (.str x) (.str x)
 | tup {a:Addr} {xs:List V} {ds:List PyData}:H a=some (.tup xs)->DatL H xs ds->Dat H (.ref a) (.tuple ds)
 | lst {a:Addr} {xs:List V} {ds:List PyData}:H a=some (.lst xs)->DatL H xs ds->Dat H (.ref a) (.list ds)
inductive DatL (H:Hp):List V->List PyData->Prop
 | nil:DatL H [] []
 | cons {x:V} {xs:List V} {d:PyData} {ds:List PyData}:Dat H x d->DatL H xs ds->DatL H (x::xs) (d::ds)
end
mutual
theorem Dat.rep{K:PySem.W.Frag}{H:Hp}:∀ {x:V} {d:PyData},Dat H x d->Rep K H x d
 | _,_,.non=>.non
 | _,_,.bl b=>.bl b
 | _,_,.int i=>.int i
 | _,_,.str x=>.str x
 | _,_,.tup h r=>.tup (SqT.of h) (DatL.rep r)
 | _,_,.lst h r=>.lst (SqL.of h) (DatL.rep r)
theorem DatL.rep{K:PySem.W.Frag}{H:Hp}:∀ {xs:List V} {ds:List PyData},DatL H xs ds->RepL K H xs ds
 | _,_,.nil=>.nil
 | _,_,.cons h r=>.cons (Dat.rep h) (DatL.rep r)
end
mutual
theorem Dat.same{H H':Hp}(s:Same H H'):∀ {x:V} {d:PyData},Dat H x d->Dat H' x d
 | _,_,.non=>.non
 | _,_,.bl b=>.bl b
 | _,_,.int i=>.int i
 | _,_,.str x=>.str x
 | _,_,.tup h r=>.tup (s _ _ h) (DatL.same s r)
 | _,_,.lst h r=>.lst (s _ _ h) (DatL.same s r)
theorem DatL.same{H H':Hp}(s:Same H H'):∀ {xs:List V} {ds:List PyData},DatL H xs ds->DatL H' xs ds
 | _,_,.nil=>.nil
 | _,_,.cons h r=>.cons (Dat.same s h) (DatL.same s r)
end
theorem DatL.len{H:Hp}:∀ {xs:List V} {ds:List PyData},DatL H xs ds->xs.length=ds.length
 | _,_,.nil=>rfl
 | _,_,.cons _ r=>by simp [DatL.len r]
theorem DatL.get{H:Hp}:∀ {xs:List V} {ds:List PyData} {i:Nat} {x:V},DatL H xs ds->xs[i]? = some x->∃ d,ds[i]? = some d/\Dat H x d
 | _,_,_,_,.nil,e=>by simp at e
 | _,_,0,_,.cons h _,e=>by simp at e;subst e;exact⟨_,rfl,h⟩
 | _,_,i+1,x,.cons _ r,e=>by
  obtain⟨d,h1,h2⟩:=DatL.get (i:=i) (x:=x) r (by simpa using e)
  exact⟨d,by simpa using h1,h2⟩
def tyD:PyData->Value
 | .none=>.type "NoneType"
 | .bool _=>.type "bool"
 | .int _=>.type "int"
 | .str _=>.type "str"
 | .list _=>.type "list"
 | .tuple _=>.type "tuple"
 | .dict _=>.type "dict"
theorem Dat.ty{K:PySem.W.Frag}{H:Hp}{x:V}{d:PyData}(h:Dat H x d):TyOf K H x (tyD d):=by
 cases h with
 | non=>exact .non
 | bl b=>exact .bl b
 | int i=>exact .int i
 | str x=>exact .str x
 | tup h _=>exact .tup h
 | lst h _=>exact .lst h
def isI:PyData->Bool | .int _=>true | .bool _=>true | _=>false
def isB:PyData->Bool | .bool _=>true | _=>false
def isT:PyData->Bool | .tuple _=>true | _=>false
def isL:PyData->Bool | .list _=>true | _=>false
section
variable {K:PySem.W.Frag} {H:Hp} {x:V} {d:PyData} {Q:VK}
theorem isi_tuple (h:Dat H x d) (q:Q (.bl (isT d)) H):rIsi K [x,.ty "tuple"] H Q:=⟨x,"tuple",_,isT d,rfl,h.ty,by cases h<;>rfl,q⟩
theorem isi_list (h:Dat H x d) (q:Q (.bl (isL d)) H):rIsi K [x,.ty "list"] H Q:=⟨x,"list",_,isL d,rfl,h.ty,by cases h<;>rfl,q⟩
end
theorem ints_rep{K:PySem.W.Frag}{H:Hp}:∀ (ns:List Int),RepL K H (ns.map V.int) (ns.map PyData.int)
 | []=>.nil
 | n::ns=>.cons (.int n) (ints_rep ns)
theorem ints_eqv:∀ ms ns:List Int,PyData.eqvAll (ms.map PyData.int) (ns.map PyData.int)=decide (ms=ns)
 | [],[]=>rfl
 | [],_::_=>by simp [PyData.eqvAll]
 | _::_,[]=>by simp [PyData.eqvAll]
 | p::ps,q::qs=>by
  show (PyData.eqv (.int p) (.int q)&&PyData.eqvAll (ps.map PyData.int) (qs.map PyData.int))=_
  rw [ints_eqv ps qs]
  by_cases h1:p=q<;>by_cases h2:ps=qs<;>simp [PyData.eqv,h1,h2]
theorem ints_layAll:∀ ns:List Int,PyData.canLayAll0 (ns.map PyData.int)=true
 | []=>rfl
 | n::ns=>by
  show (PyData.canLay0 (.int n)&&PyData.canLayAll0 (ns.map PyData.int))=true
  rw [ints_layAll ns];rfl
theorem ints_depth:∀ ns:List Int,PyData.depthAll (ns.map PyData.int)=0
 | []=>rfl
 | n::ns=>by
  show max (PyData.depth (.int n)) (PyData.depthAll (ns.map PyData.int))=0
  rw [ints_depth ns];rfl
theorem eqL_ints{K:PySem.W.Frag}{H:Hp}{a b:Addr}{ms ns:List Int}{Q:VK}(ha:SqL K H a (ms.map V.int))(hb:SqL K H b (ns.map V.int))(q:Q (.bl (decide (ms=ns))) H):rEqD K false (.ref a) (.ref b) H Q:=by
 refine⟨.list (ms.map PyData.int),.list (ns.map PyData.int),.lst ha (ints_rep ms),.lst hb (ints_rep ns),ints_layAll ms,ints_layAll ns,?_,?_⟩
 ·refine Nat.le_trans (Nat.min_le_left _ _) ?_
  show PyData.depthAll (ms.map PyData.int)+1<=60
  rw [ints_depth];decide
 ·show Q (.bl (PyData.eqvAll (ms.map PyData.int) (ns.map PyData.int))) H
  rw [ints_eqv];exact q
theorem ints_any(n:Int)(ns:List Int):((ns.map PyData.int).any fun e=>PyData.eqv e (.int n))=decide (n∈ns):=by
 induction ns with
 | nil=>simp
 | cons m ns ih=>
  rw [List.map_cons,List.any_cons,ih]
  by_cases h1:n=m
  ·subst h1;simp [PyData.eqv]
  ·have h2:¬ m=n:=fun e=>h1 e.symm
   by_cases h3:n∈ns<;>simp [PyData.eqv,h1,h2,h3]
theorem in_ints{K:PySem.W.Frag}{H:Hp}{b:Addr}{n:Int}{ns:List Int}{neg:Bool}{Q:VK}(hb:SqL K H b (ns.map V.int)\/SqT K H b (ns.map V.int))(q:Q (.bl (if neg then !decide (n∈ns) else decide (n∈ns))) H):rInD K neg (.int n) (.ref b) H Q:=by
 refine⟨.int n,ns.map PyData.int,b,_,.int n,rfl,hb,ints_rep ns,rfl,ints_layAll ns,Nat.zero_le _,?_⟩
 rw [ints_any]
 exact q
end L2
namespace L2
open PySem PySem.Spec PyProof.Rows
def clOf(env:Env):List (Str×NameKind)->List (Str×Addr)->List (Str×Addr)
 | [],acc=>acc
 | (n,k)::r,acc=>clOf env r (if (k==NameKind.free)=true then (n,(env.cells.lookup n).getD 0)::acc else acc)
theorem closureFor_cl{scope:Scope}{env:Env}(h:∀ x∈scope.names,x.2=.free->∃ c,env.cells.lookup x.1=some c):closureFor scope env=pure (clOf env scope.names []):=by
 simp only [closureFor]
 generalize ([]:List (Str×Addr))=acc
 revert h
 generalize scope.names=l
 intro h
 induction l generalizing acc with
 | nil=>rfl
 | cons x l ih=>
  obtain⟨n,k⟩:=x
  have ih':=fun acc=>ih acc fun y hy=>h y (List.mem_cons_of_mem _ hy)
  rw [List.forIn_cons]
  cases hk:(k==NameKind.free) with
  | false=>
   simp only [Bool.false_eq_true,if_false,pure_bind]
   rw [show clOf env ((n,k)::l) acc=clOf env l acc by simp [clOf,hk]]
   exact ih' acc
  | true=>
   obtain⟨c,hc⟩:=h (n,k) List.mem_cons_self (by simpa using hk)
   have e:cellOf env n=pure c:=by unfold cellOf;rw [hc]
   simp only [if_true,e,pure_bind]
   rw [show clOf env ((n,k)::l) acc=clOf env l ((n,c)::acc) by simp [clOf,hk,hc]]
   exact ih' ((n,c)::acc)
theorem clOf_lookup{env:Env}{x:Str}{c:Addr}:∀ {l:List (Str×NameKind)} {acc:List (Str×Addr)},(∀ y∈l,y.2=.free->∃ c,env.cells.lookup y.1=some c)->(clOf env l acc).lookup x=some c->acc.lookup x=some c\/env.cells.lookup x=some c
 | [],acc,_,h=>.inl h
 | (n,k)::l,acc,hf,h=>by
  have ih:=clOf_lookup (l:=l) (acc:=if (k==NameKind.free)=true then (n,(env.cells.lookup n).getD 0)::acc else acc) (fun y hy=>hf y (List.mem_cons_of_mem _ hy)) h
  rcases ih with e | e
  ·cases hk:(k==NameKind.free) with
   | false=>rw [hk] at e;exact .inl (by simpa using e)
   | true=>
    rw [hk] at e
    simp only [if_true,List.lookup_cons] at e
    cases hx:x==n with
    | false=>rw [hx] at e;exact .inl e
    | true=>
     rw [hx] at e
     obtain⟨c',hc⟩:=hf (n,k) List.mem_cons_self (by simpa using hk)
     have hxn:x=n:=by simpa using hx
     subst hxn
     rw [hc] at e
     simp only [Option.getD_some] at e
     exact .inr (hc.trans e)
  ·exact .inr e
theorem clOf_mono{env:Env}{x:Str}:∀ {l:List (Str×NameKind)} {acc:List (Str×Addr)},(∃ c,acc.lookup x=some c)->∃ c,(clOf env l acc).lookup x=some c
 | [],acc,h=>h
 | (n,k)::l,acc,h=>by
  refine clOf_mono (l:=l) ?_
  cases hk:(k==NameKind.free) with
  | false=>simpa using h
  | true=>
   simp only [if_true,List.lookup_cons]
   cases hx:x==n with
   | false=>exact h
   | true=>exact⟨_,rfl⟩
theorem clOf_has{env:Env}{x:Str}:∀ {l:List (Str×NameKind)} {acc:List (Str×Addr)},(x,NameKind.free)∈l->∃ c,(clOf env l acc).lookup x=some c
 | [],_,h=>nomatch h
 | (n,k)::l,acc,h=>by
  rcases List.mem_cons.mp h with e | e
  ·cases e
   refine clOf_mono (l:=l) ?_
   simp
  ·exact clOf_has (l:=l) e
def rlF(env:Env)(p:Str×NameKind):Str×NameKind:=if (p.2==NameKind.free&&env.scope.kind==.function&&env.kindOf p.1==some .cell) then (p.1,NameKind.cell) else p
theorem relabel_names(scope:Scope)(env:Env):(relabel scope env).names=scope.names.map (rlF env):=by
 show scope.names.map _=_
 congr 1
theorem rlF_fst(env:Env)(p:Str×NameKind):(rlF env p).1=p.1:=by unfold rlF;split<;>rfl
theorem lookup_rlF{env:Env}{x:Str}:∀ {names:List (Str×NameKind)},(names.map (rlF env)).lookup x=(names.lookup x).map fun k=>(rlF env (x,k)).2
 | []=>rfl
 | (n,q)::r=>by
  rw [List.map_cons]
  have e:rlF env (n,q)=(n,(rlF env (n,q)).2):=Prod.ext (rlF_fst env _) rfl
  rw [e,List.lookup_cons,List.lookup_cons]
  cases hx:x==n with
  | true=>
   have hxn:x=n:=by simpa using hx
   subst hxn
   rfl
  | false=>exact lookup_rlF (names:=r)
theorem relabel_some{scope:Scope}{env:Env}{x:Str}{k:NameKind}(h:(relabel scope env).names.lookup x=some k):scope.names.lookup x=some k\/(k=.cell/\scope.names.lookup x=some .free):=by
 rw [relabel_names,lookup_rlF] at h
 cases e:scope.names.lookup x with
 | none=>rw [e] at h;cases h
 | some q=>
  rw [e] at h
  have h':(rlF env (x,q)).2=k:=Option.some.inj h
  unfold rlF at h'
  split at h'
  ·rename_i hc
   have hq:q=.free:=by
    have:=(Bool.and_eq_true _ _).mp ((Bool.and_eq_true _ _).mp hc).1
    simpa using this.1
   exact .inr ⟨h'.symm,by rw [hq]⟩
  ·exact .inl (by rw [<-h'])
theorem relabel_free{scope:Scope}{env:Env}{x:Str}(h:scope.names.lookup x=some .free):(relabel scope env).names.lookup x=some .cell\/(relabel scope env).names.lookup x=some .free:=by
 rw [relabel_names,lookup_rlF,h]
 show some (rlF env (x,.free)).2=_\/some (rlF env (x,.free)).2=_
 unfold rlF
 split
 ·exact .inl rfl
 ·exact .inr rfl
def cxC(X:Cx)(N:List Str)(scope:Scope)(C:Addr)(s:Shared)(H:Hp)(fp:List Addr)(pn:List (Addr×Obj)):Cx:=
 { X with N:=N,s₀:=s,H₀:=H,env:=compEnvC scope (clOf X.env scope.names []) C X.env,outer:=X.stack,ex:=fp,fn:=fun _=>false,pn:=pn,xe:=fun _ _=>False }
structure CScope (scope:Scope) (ns:List Str):Prop where
 kind:scope.kind=.function
 nocell:∀ y∈scope.names,y.2≠.cell
 names:∀ y∈scope.names,y.2=.local->scope.names.lookup y.1=some .local
 frees:∀ y∈scope.names,y.2=.free->y.1∈ns
inductive Caps (X:Cx) (scope:Scope):List Str->List Nat->Prop
 | nil:Caps X scope [] []
 | cons {x:Str} {i:Nat} {ns:List Str} {is:List Nat}:X.N[i]? = some x->scope.names.lookup x=some .free->(X.env.kindOf x=some .cell\/X.env.kindOf x=some .free)->Caps X scope ns is->Caps X scope (x::ns) (i::is)
theorem Caps.mem{X:Cx}{scope:Scope}{ns:List Str}{is:List Nat}{x:Str}(c:Caps X scope ns is)(h:x∈ns):X.env.kindOf x=some .cell\/X.env.kindOf x=some .free:=by
 induction c with
 | nil=>exact nomatch h
 | cons _ _ k _ ih=>
  rcases List.mem_cons.mp h with e | e
  ·subst e;exact k
  ·exact ih e
theorem Caps.len{X:Cx}{scope:Scope}{ns:List Str}{is:List Nat}(c:Caps X scope ns is):is.length=ns.length:=by
 induction c with
 | nil=>rfl
 | cons _ _ _ _ ih=>simp [ih]
theorem Caps.at_{X:Cx}{scope:Scope}{ns:List Str}{is:List Nat}(c:Caps X scope ns is){j:Nat}{x:Str}(h:ns[j]? = some x):
  ∃ i,is[j]? = some i/\X.N[i]? = some x/\scope.names.lookup x=some .free/\(X.env.kindOf x=some .cell\/X.env.kindOf x=some .free):=by
 induction c generalizing j with
 | nil=>simp at h
 | cons a b k _ ih=>
  cases j with
  | zero=>simp at h;subst h;exact⟨_,rfl,a,b,k⟩
  | succ j=>exact ih (by simpa using h)
def getJ(σ:St)(i:Nat):Option V:=(σ[i]?).join
def initC(k:Nat)(caps:List Nat)(σ:St):St:=List.replicate k none++caps.map fun i=>getJ σ i
section
variable {X:Cx} {pins:List (Addr×Obj)} {σ:St} {H:Hp} {s s4:Shared}
theorem comp_start{own ns:List Str}{caps:List Nat}{scope:Scope}{C:Addr}{fp:List Addr}(I:Inv X pins σ H s)(S:CScope scope ns)(cp:Caps X scope ns caps)(hf:∀ b∈fp,FpOk X pins H b)
  (hfl:∀ b∈fp,b<s.heap.objs.size) (hC:s.heap.objs.size<=C) (os:s4.os=s.os) (gens:s4.gens=s.gens) (k:∀ b o,s.heap.get? b=some o->s4.heap.get? b=some o) {m:Str->Option Value} (hn:s4.heap.Ns C m) :
  Inv (cxC X (own++ns) scope C s H fp (X.pn++pins)) [] (initC own.length caps σ) H s4:=by
 have cells:∀ x c,(clOf X.env scope.names []).lookup x=some c->X.env.cells.lookup x=some c:=fun x c e=>by
  rcases clOf_lookup (fun y hy hfr=>I.ok.has y.1 (cp.mem (S.frees y hy hfr))) e with z | z
  ·simp at z
  ·exact z
 have neL:C≠X.env.locals:=Nat.ne_of_gt (Nat.lt_of_lt_of_le I.lt hC)
 have inFs:∀ b,b∈frs X.stack->b=X.env.locals\/b∈X.fs:=fun b hb=>List.mem_cons.mp (I.stkSub b hb)
 have nst:∀ b,b≠X.env.locals->b∉X.fs->b∉frs X.stack:=fun b h1 h2 z=>(inFs b z).elim h1 h2
 have cle:∀ x c,X.env.cells.lookup x=some c->c<s.heap.objs.size:=fun x c e=>by obtain⟨v,q⟩:=I.cell x c e;exact q.lt
 refine⟨⟨I.ok.mod,S.kind,I.ok.glob,I.ok.blt,hC,fun x y c h1 h2=>I.ok.inj x y c (cells _ _ h1) (cells _ _ h2),fun x hx=>?_,(fun x c h=>nomatch h),I.ok.hd,I.ok.frames,.inl rfl,fun b hb=>⟨fun z=>?_,fun x c e=>(hf b hb).2.2.2.2.1 x c (cells _ _ e)⟩,
   I.bs,Nat.le_trans I.ok.bsz I.sz,fun b o e hb=>?_,fun b hb=>nst b (hf b hb).2.1 (hf b hb).2.2.1,I.stack,I.stkFree⟩,
  os,by rw [gens];exact I.bare,Un.kept k,⟨m,hn,fun i x v e1 e2 e3=>?_⟩,fun x c e=>?_,?_,fun x c e=>I.freeC x c (cells _ _ e),fun p hp=>?_,I.hok.kept k,?_⟩
 ·have hx':(relabel scope X.env).names.lookup x=some .cell\/(relabel scope X.env).names.lookup x=some .free:=hx
  have hfree:scope.names.lookup x=some .free:=by
   rcases hx' with z | z
   ·rcases relabel_some z with q | q
    ·exact absurd rfl (S.nocell _ (PySem.mem_of_lookup q))
    ·exact q.2
   ·rcases relabel_some z with q | q
    ·exact q
    ·exact absurd q.1 (by decide)
  exact clOf_has (PySem.mem_of_lookup hfree)
 ·exact absurd (Nat.lt_of_lt_of_le (hfl b hb) hC) (by rw [show b=C from z];exact Nat.lt_irrefl _)
 ·obtain⟨f0,f1,f2,f3,f4,f5⟩:=hf b hb
  rcases f3 with z | z
  ·exact I.ok.noex b o e z
  ·exact absurd (Nat.lt_of_lt_of_le (Heap.lt_size e) (Nat.le_trans I.ok.bsz z)) (Nat.lt_irrefl _)
 ·have e2':(List.replicate own.length none++caps.map fun i=>getJ σ i)[i]? = some (some v):=e2
  have e1':(own++ns)[i]? = some x:=e1
  by_cases hi:i<own.length
  ·rw [List.getElem?_append_left (by simpa using hi),List.getElem?_replicate,if_pos hi] at e2'
   cases e2'
  ·rw [List.getElem?_append_right (by simpa using hi),List.length_replicate,List.getElem?_map] at e2'
   rw [List.getElem?_append_right (by omega)] at e1'
   obtain⟨i',h1,h2,h3,h4⟩:=cp.at_ e1'
   rw [h1] at e2'
   have e4:(σ[i']?).join=some v:=Option.some.inj e2'
   have e5:σ[i']? = some (some v):=by
    cases q:σ[i']? with
    | none=>rw [q] at e4;cases e4
    | some w'=>rw [q] at e4;rw [show w'=some v from e4]
   obtain⟨m',hn',hl'⟩:=I.loc
   have vis:Vis X.env.scope x:=h4.elim (fun z=>.inr (.inl z)) fun z=>.inr (.inr z)
   obtain⟨u,r,l⟩:=hl' i' x v h2 e5 vis
   refine⟨u,r,.inr ⟨relabel_free h3,?_⟩⟩
   obtain⟨c,hc⟩:=clOf_has (env:=X.env) (acc:=[]) (PySem.mem_of_lookup h3)
   rcases l with ⟨z,_⟩ | ⟨_,c',e6,z⟩
   ·rcases h4 with y | y<;>· rw [y] at z;cases z
   ·have:=cells _ _ hc
    rw [e6] at this
    cases this
    obtain⟨o,ho,hd⟩:=z
    exact⟨_,hc,o,k _ _ ho,hd⟩
 ·obtain⟨v,o,ho,hd⟩:=I.cell x c (cells _ _ e)
  exact⟨v,o,k _ _ ho,hd⟩
 ·exact I.hok.fresh hC
 ·have hp':p∈X.pn++pins:=by simpa [cxC] using hp
  obtain⟨a1,a2,a3,a4,a5⟩:=I.pin p hp'
  exact⟨k _ _ a1,a2,Nat.ne_of_lt (Nat.lt_of_lt_of_le (Heap.lt_size a1) hC),nst _ a3 a4,a5⟩
 ·show (initC own.length caps σ).length=(own++ns).length
  simp [initC,cp.len]
end
def PF(X:Cx)(ifs:List Expr)(t:TT):Prop:=
 ∀ (pins:List (Addr×Obj)) (s:Shared) (σ:St) (H:Hp) (Q:Bool->Hp->Prop),Inv X pins σ H s->t σ H Q →
  wpAny (model X.prog X.w) X.A (forIn ifs true fun c r=>if r=true then do let ok <-isTrue c X.env (eval c X.env);pure (ForInStep.yield ok) else pure (ForInStep.yield r)) (TP X pins σ Q) X.xe s
def tNoIf:TT:=fun _ H q=>q true H
theorem pf_nil{X:Cx}:PF X [] tNoIf:=fun _ _ _ H _ I h=>wpAny_pure ⟨H,I,h⟩
theorem pf_one{X:Cx}{c:Expr}{t:TT}(h:PT X c t):PF X [c] t:=by
 intro pins s σ H Q I hq
 rw [List.forIn_cons]
 simp only [if_true,bind_assoc,pure_bind]
 refine wpAny_bind (thn (h pins s σ H Q I hq) fun b s1 q=>?_)
 exact wpAny_pure q
def CompJ(J:It)(g:TG)(tf:TT)(te:TE)(Q:VK)(σ:St)(H1:Hp):Prop:=∃ W:Nat->Nat->List V->St->Hp->Prop,(∃ m,W 0 m [] σ H1)/\∀ i m ys σ H,W i m ys σ H →
 (J.stop i H/\ys.length<=sizeLine/\∀ p,H p=none->Q (.ref p) (upd H p (.lst ys))) ∨
 (J.go i H/\ys.length<sizeLine/\∀ x H',J.yld i H x H'->g x σ H' fun σ2 H2=>tf σ2 H2 fun b H3=>
  if b=true then te σ2 H3 fun y H4=>∃ m',m'<m/\W (i+1) m' (ys++[y]) σ2 H4 else ∃ m',m'<m/\W (i+1) m' ys σ2 H3)
section
variable {X:Cx} {pins:List (Addr×Obj)} {σ:St} {H:Hp} {s:Shared}
theorem comp_turn_one {prog : Program} {w : World} {A : Around} {R : Result → Shared → Prop} {s : Shared} {elt target iter : Expr} {ifs : List Expr} {scope : Scope} {pos : Pos} {it acc : Value} {env : Env} (I : Nat → Shared → Prop)
  (turn : ∀ n s, I n s → wpAny (model prog w) A (pyNext it) (fun r s₁ => match r with
   | none => R (.ok .next) s₁
   | some v => wpAny (model prog w) A (letOwnedTupleGo target it v) (fun _ s₁ => wpAny (model prog w) A (assign target env v) (fun _ s₂ =>
     wpAny (model prog w) A (forIn ifs true fun c r => if r = true then do let ok ← isTrue c env (eval c env); pure (ForInStep.yield ok) else pure (ForInStep.yield r)) (fun ok s₃ =>
      if ok = true then wpAny (model prog w) A (eval elt env) (fun x s₄ =>
       wpAny (model prog w) A (call (.builtin "list.append") [acc, x]) (fun _ s₅ => ∃ m, m < n ∧ I m s₅) (notedBy (model prog w) A env fun e s' => R (.error e) s') s₄) (notedBy (model prog w) A env fun e s' => R (.error e) s') s₃
      else ∃ m, m < n ∧ I m s₃) (notedBy (model prog w) A env fun e s' => R (.error e) s') s₂) (notedBy (model prog w) A env fun e s' => R (.error e) s') s₁) (notedBy (model prog w) A env fun e s' => R (.error e) s') s₁) (notedBy (model prog w) A env fun e s' => R (.error e) s') s)
  (n : Nat) (h : I n s) : codeAny (model prog w) A (.compLoop (.ListComp elt [⟨target, iter, ifs, 0⟩] scope pos) 0 it acc env) R s := by
 refine codeAny_loop rfl I (fun n s hI => ?_) n h
 show wpAny _ A ((compTurn (.ListComp elt [⟨target, iter, ifs, 0⟩] scope pos) 0 it acc env).onRaise (fun x => do noteFrame x env; theTreesLotGoes x)) _ _ s
 refine wpAny_noted ?_
 rw [compTurn_list]
 refine wpAny_bind (wpAny_standAt (wpAny_bind (wpAny_mono (turn n s hI) (fun r s₁ h₁ => ?_) fun _ _ h' => h')))
 cases r with
 | none => exact wpAny_pure h₁
 | some v =>
  refine wpAny_bind (wpAny_mono h₁ (fun _ s₁ h₁ => ?_) fun _ _ h' => h')
  refine wpAny_bind (wpAny_mono h₁ (fun _ s₂ h₂ => wpAny_bind (wpAny_mono h₂ (fun ok s₃ h₃ => ?_) fun _ _ h' => h')) fun _ _ h' => h')
  cases ok with
  | false => exact wpAny_pure ⟨rfl, h₃⟩
  | true =>
   exact wpAny_bind (wpAny_bind (wpAny_mono h₃ (fun x s₄ h₄ => wpAny_bind (wpAny_mono h₄ (fun _ s₅ h₅ => wpAny_pure (wpAny_pure ⟨rfl, h₅⟩)) fun _ _ h' => h')) fun _ _ h' => h'))
theorem comp_run{own ns:List Str}{caps:List Nat}{elt tg iter:Expr}{ifs:List Expr}{scope:Scope}{pos:Pos}{it:Addr}{fp:List Addr}{tn:Nat->Heap->Prop}{J:It}{g:TG}{tf:TT}{te:TE}{Q:VK}{E:Value->Shared->Prop}{RR:Value->Addr->Result->Shared->Prop}
  (hc:X.calm=true) (S:CScope scope ns) (cp:Caps X scope ns caps)
  (hg:∀ C s H fp pn,PG (cxC X (own++ns) scope C s H fp pn) tg g) (ht:∀ C s H fp pn,PF (cxC X (own++ns) scope C s H fp pn) ifs tf) (he:∀ C s H fp pn,PE (cxC X (own++ns) scope C s H fp pn) elt te)
  (I:Inv X pins σ H s) (T:Turn X.prog X.w X.K tg J fp it tn) (st:tn 0 s.heap) (hf:∀ b∈fp,FpOk X pins H b) (hJ:CompJ J g tf te Q (initC own.length caps σ) H)
  (fin:∀ D C m s' H' ys,D≠C->s'.heap.Ns C m->FpOk X pins (upd H' D (.lst ys)) C->Inv X pins σ (upd H' D (.lst ys)) s'->Q (.ref D) (upd H' D (.lst ys))->RR (.ref D) C (.ok .next) s') :
  wpAny (model X.prog X.w) X.A (newList []) (fun acc s₃=>wpAny (model X.prog X.w) X.A (newFunctionEnv scope X.env.globals (clOf X.env scope.names []) [] X.env.qual none .none (some X.env)) (fun cenv s₄=>
   codeAny (model X.prog X.w) X.A (.compStart (.ListComp elt [⟨tg,iter,ifs,0⟩] scope pos) 0 (.ref it) acc { cenv with scope:=relabel scope X.env }) (RR acc cenv.locals) s₄) E s₃) E s:=by
 refine wpAny_newObj_type (wpAny_newFunctionEnv S.nocell (by intro y hy;simp at hy) (fun h₁ hns₁ hsb₁=>?_) S.kind)
 dsimp only at hns₁ hsb₁ ⊢
 generalize hH2:s.heap.push { cls:=.type "list",dict:=none,data:=.seq ([]:List Value).toArray }=H2 at hns₁ hsb₁ ⊢
 have hC:H2.objs.size=s.heap.objs.size+1:=by rw [<-hH2,Heap.size_push]
 have hDC:s.heap.objs.size≠H2.objs.size:=by rw [hC];exact Nat.ne_of_lt (Nat.lt_succ_self _)
 have hCle:s.heap.objs.size<=H2.objs.size:=by rw [hC];exact Nat.le_succ _
 have old:∀ b o,s.heap.get? b=some o->h₁.get? b=some o:=fun b o e=>hsb₁.extBut b o (by rw [hC];exact Nat.ne_of_lt (Nat.lt_succ_of_lt (Heap.lt_size e))) (Heap.get?_push_of_some _ (hH2▸Heap.get?_push_of_some _ e))
 have hacc:h₁.PlainList s.heap.objs.size #[]:=⟨_,hsb₁.extBut _ _ hDC (Heap.get?_push_of_some _ (hH2▸Heap.get?_push_size _ rfl))⟩
 have hfl:∀ b∈fp,b<s.heap.objs.size:=fun b hb=>by obtain⟨o,e,_⟩:=T.obj _ _ st b hb;exact Heap.lt_size e
 generalize hD:s.heap.objs.size=D at hDC hacc ⊢
 generalize hCe:H2.objs.size=C at hns₁ hsb₁ hDC hCle hC ⊢
 have hDle:s.heap.objs.size<=D:=by rw [hD];exact Nat.le_refl _
 have hCle':s.heap.objs.size<=C:=by rw [hD];rw [hD] at hCle;exact hCle
 have I₁:Inv (cxC X (own++ns) scope C s H fp (X.pn++pins)) [] (initC own.length caps σ) H { s with heap:=h₁,toks:=s.toks+([]:List (Str×Value)).length }:=
  comp_start I S cp hf hfl hCle' rfl rfl old hns₁
 have st₁:tn 0 h₁:=T.keep _ _ _ st fun b _ o e=>old b o e
 generalize hY:cxC X (own++ns) scope C s H fp (X.pn++pins)=Y at I₁
 have hgY:PG Y tg g:=hY▸hg C s H fp (X.pn++pins)
 have htY:PF Y ifs tf:=hY▸ht C s H fp (X.pn++pins)
 have heY:PE Y elt te:=hY▸he C s H fp (X.pn++pins)
 have yP:Y.prog=X.prog:=by rw [<-hY];rfl
 have yW:Y.w=X.w:=by rw [<-hY];rfl
 have yK:Y.K=X.K:=by rw [<-hY];rfl
 have yA:Y.A=X.A:=by rw [<-hY];rfl
 have yC:Y.calm=true:=by rw [<-hY];exact hc
 have yE:Y.env=compEnvC scope (clOf X.env scope.names []) C X.env:=by rw [<-hY];rfl
 have yX:Y.xe=fun _ _=>False:=by rw [<-hY];rfl
 have yF:Y.fs=frs X.stack:=by rw [<-hY];rfl
 have yQ:Y.pn=X.pn++pins:=by rw [<-hY];rfl
 have yI:Y.ex=fp:=by rw [<-hY];rfl
 have yS:Y.s₀=s:=by rw [<-hY];rfl
 have yH:Y.H₀=H:=by rw [<-hY];rfl
 have cells:∀ x c,Y.env.cells.lookup x=some c->X.env.cells.lookup x=some c:=fun x c e=>by
  rw [yE] at e
  rcases clOf_lookup (fun y hy hfr=>I.ok.has y.1 (cp.mem (S.frees y hy hfr))) (show (clOf X.env scope.names []).lookup x=some c from e) with z | z
  ·simp at z
  ·exact z
 have nst:∀ b,b≠X.env.locals->b∉X.fs->b∉Y.fs:=fun b h1 h2 z=>by
  rw [yF] at z
  exact (List.mem_cons.mp (I.stkSub b z)).elim h1 h2
 have fpY:∀ {H':Hp},(∀ b∈fp,H' b=none)->∀ b∈fp,FpOk Y [] H' b:=fun {H'} hn b hb=>by
  obtain⟨f0,f1,f2,f3,f4,f5⟩:=hf b hb
  refine⟨hn b hb,?_,nst b f1 f2,.inl (by rw [yI];exact hb),fun x c e=>f4 x c (cells x c e),fun p hp=>f5 p (by simpa [yQ] using hp)⟩
  rw [yE]
  exact Nat.ne_of_lt (Nat.lt_of_lt_of_le (hfl b hb) hCle')
 have fpD:∀ {H':Hp},H' D=none->FpOk Y [] H' D:=fun {H'} hn=>by
  obtain⟨f0,f1,f2,f3,f4,f5⟩:=I.fpOk (H':=H') hDle hn
  refine⟨hn,by rw [yE];exact hDC,nst D f1 f2,.inr (by rw [yS];exact hDle),fun x c e=>f4 x c (cells x c e),fun p hp=>f5 p (by simpa [yQ] using hp)⟩
 have hDf:D∉fp:=fun z=>Nat.lt_irrefl _ (Nat.lt_of_lt_of_le (hfl D z) hDle)
 have objD:∀ {h:Heap} {us:List Value},h.PlainList D us.toArray->∃ o,h.get? D=some o/\∀ v,o.data≠.cell v:=fun {h us} ⟨n,e⟩=>⟨_,e,fun v z=>by cases z⟩
 have noErr:∀ {α:Type} {t:Sem α} {Qt:α->Shared->Prop} {sx:Shared} {E':Value->Shared->Prop},wpAny (model Y.prog Y.w) Y.A t Qt Y.xe sx->wpAny (model X.prog X.w) X.A t Qt E' sx:=fun {α t Qt sx E'} h=>by
  rw [yP,yW,yA,yX] at h
  exact wpAny_mono h (fun _ _ q=>q) fun _ _ f=>f.elim
 obtain⟨W,⟨m0,w0⟩,turn⟩:=hJ
 have TY:Turn Y.prog Y.w Y.K tg J fp it tn:=by rw [yP,yW,yK];exact T
 have loop:∀ s₃:Shared,s₃={ s with heap:=h₁,toks:=s.toks+([]:List (Str×Value)).length } →
   codeAny (model X.prog X.w) X.A (.compLoop (.ListComp elt [⟨tg,iter,ifs,0⟩] scope pos) 0 (.ref it) (.ref D) (compEnvC scope (clOf X.env scope.names []) C X.env)) (RR (.ref D) C) s₃:=by
  rintro s₃ rfl
  refine comp_turn_one (fun n s'=>∃ i ys us σ' H',Inv Y [] σ' H' s'/\tn i s'.heap/\(∀ b∈fp,H' b=none)/\H' D=none/\s'.heap.PlainList D us.toArray/\Vals ys us/\W i n ys σ' H') ?_ m0
   ⟨0,[],[],_,H,I₁,st₁,fun b hb=>(hf b hb).1,I.hok.fresh hDle,hacc,.nil,w0⟩
  rintro n s3 ⟨i,ys,us,σ3,H3,I3,st3,fr3,hD3,pl3,v3,w3⟩
  have fD3:∀ b∈[D],FpOk Y [] H3 b:=fun b hb=>by
   have e:b=D:=by simpa using hb
   subst e
   exact fpD hD3
  have I3':Inv Y ([]++pinsAt [D] s3.heap) σ3 H3 s3:=I3.pinned fD3 fun b hb=>by
   have e:b=D:=by simpa using hb
   subst e
   exact objD pl3
  rw [List.nil_append] at I3'
  have fpY':∀ {H':Hp},(∀ b∈fp,H' b=none)->∀ b∈fp,FpOk Y (pinsAt [D] s3.heap) H' b:=fun {H'} hn b hb=>by
   obtain⟨f0,f1,f2,f3,f4,f5⟩:=fpY hn b hb
   refine⟨f0,f1,f2,f3,f4,fun p hp=>?_⟩
   rcases List.mem_append.mp hp with z | z
   ·exact f5 p (by simpa using z)
   ·have e:p.1=D:=by simpa using (of_pinsAt z).1
    exact fun q=>hDf (by rw [<-e,q];exact hb)
  obtain⟨oD,eD,cD⟩:=objD pl3
  have keepD:∀ {σ':St} {H':Hp} {s':Shared} {pl:List (Addr×Obj)},Inv Y (pinsAt [D] s3.heap++pl) σ' H' s'->s'.heap.PlainList D us.toArray/\H' D=none:=fun {σ' H' s' pl} I'=>by
   have:=I'.pin (D,oD) (List.mem_append_right _ (List.mem_append_left _ (mem_pinsAt (by simp) eD)))
   refine⟨?_,this.2.1⟩
   obtain⟨k,e⟩:=pl3
   rw [e] at eD
   cases eD
   exact⟨k,this.1⟩
  rcases turn i n ys σ3 H3 w3 with ⟨stop,hlen,qn⟩ | ⟨go,hlen,step⟩
  ·refine noErr (thn (TY.done Y rfl rfl rfl yC i _ s3 σ3 H3 Y.xe I3' (fpY' fr3) st3 stop) fun r s4 ⟨hr,I4⟩=>?_)
   subst hr
   obtain⟨pl4,hD4⟩:=keepD (pl:=[]) (by rw [List.append_nil];exact I4)
   have hun:Un (frs X.stack) fp H H3 s.heap s4.heap:=by have:=I4.base;rw [yF,yI,yS,yH] at this;exact this
   have hok:HOk X.prog X.w H3 s4.heap:=by have:=I4.hok;rw [yP,yW] at this;exact this
   obtain⟨m4,hn4,_⟩:=I4.loc
   rw [yE] at hn4
   have hC4:H3 C=none:=by have:=I4.free;rw [yE] at this;exact this
   have ne:∀ b u,H3 b=some u->b≠D:=fun b u e z=>by rw [z,hD4] at e;cases e
   refine fin D C m4 s4 H3 ys hDC hn4 (I.fpOk hCle' (by rw [upd_ne (Ne.symm hDC)];exact hC4)) (I.call' (ch:=fp) ?_ ?_ ?_ I4.bare ?_) (qn D hD4)
   ·have:=I4.os;rw [yS] at this;exact this
   ·exact⟨hun.keep,hun.slot,fun b o e n hx=>by rw [upd_ne (fun z=>by rw [z] at e;exact absurd (Heap.lt_size e) (Nat.not_lt.mpr hDle))];exact hun.free b o e n hx,hun.there,
     fun b xs e=>by have:=hun.tups b xs e;rw [upd_ne (ne _ _ this)];exact this,fun b o u e=>by have:=hun.frzs b o u e;rw [upd_ne (ne _ _ this)];exact this,
     fun b ps e=>by obtain⟨more,q⟩:=hun.tbls b ps e;exact⟨more,by rw [upd_ne (ne _ _ q)];exact q⟩⟩
   ·intro b u e
    by_cases hb:b=D
    ·subst hb
     rw [upd_same] at e
     cases e
     obtain⟨k,e4⟩:=pl4
     exact⟨hlen,us,k,v3,e4⟩
    ·rw [upd_ne hb] at e
     exact (hok b u e).stay (fun c v _ q=>q) (fun c q=>by rw [upd_ne (ne _ _ q)];exact q) fun c xs q=>by rw [upd_ne (ne _ _ q)];exact q
   ·intro b hb
    obtain⟨f0,f1,f2,f3,f4,f5⟩:=hf b hb
    exact⟨f3,f1,f4,f5⟩
  ·refine noErr (thn (TY.item Y rfl rfl rfl yC i _ s3 σ3 H3 Y.xe I3' (fpY' fr3) st3 go) fun r s4 ⟨u,hr,h4⟩=>?_)
   subst hr
   refine noErr (thn h4 fun _ s5 ⟨x,H5,I5,r5,y5,st5,fr5⟩=>?_)
   have I5':=I5.pinned (fpY' fr5) (T.obj _ _ st5)
   rw [<-yE]
   refine noErr (thn (hgY _ s5 σ3 H5 x u _ I5' r5 (step x H5 y5)) fun _ s6 ⟨σ6,H6,I6,q6⟩=>?_)
   refine noErr (thn (htY _ s6 σ6 H6 _ I6 q6) fun ok s7 ⟨H7,I7,q7⟩=>?_)
   have fpK:∀ {σ':St} {H':Hp} {s':Shared},Inv Y (pinsAt [D] s3.heap++pinsAt fp s5.heap) σ' H' s'->tn (i+1) s'.heap/\∀ b∈fp,H' b=none:=fun {σ' H' s'} I'=>
    ⟨T.keep _ _ _ st5 fun b hb o e=>(I'.pin (b,o) (List.mem_append_right _ (List.mem_append_right _ (mem_pinsAt hb e)))).1,fun b hb=>by
     obtain⟨o,e,_⟩:=T.obj _ _ st5 b hb
     exact (I'.pin (b,o) (List.mem_append_right _ (List.mem_append_right _ (mem_pinsAt hb e)))).2.1⟩
   cases ok with
   | false=>
    rw [if_neg Bool.false_ne_true] at q7 ⊢
    obtain⟨m',hm,w7⟩:=q7
    obtain⟨pl7,hD7⟩:=keepD I7
    obtain⟨st7,fr7⟩:=fpK I7
    exact⟨m',hm,i+1,ys,us,σ6,H7,I7.pins_of (fun p hp=>nomatch hp),st7,fr7,hD7,pl7,v3,w7⟩
   | true=>
    rw [if_pos rfl] at q7 ⊢
    refine noErr (thn (heY _ s7 σ6 H7 _ I7 q7) fun y s8 ⟨yv,H8,I8,r8,m',hm,w8⟩=>?_)
    obtain⟨pl8,hD8⟩:=keepD I8
    obtain⟨st8,fr8⟩:=fpK I8
    have hul:us.length=ys.length:=v3.length.symm
    refine wpAny_list_append_plain (hsz:=by rw [List.size_toArray,hul];exact Nat.le_of_lt hlen) pl8 fun h9 pl9 sb9=>?_
    obtain⟨d0,d1,d2,d3,d4,d5⟩:=fpD hD8
    refine⟨m',hm,i+1,ys++[yv],us++[y],σ6,H8,?_,?_,fr8,hD8,by simpa using pl9,v3.append (.cons r8 .nil),w8⟩
    ·exact (I8.pins_of (pins':=[]) fun p hp=>nomatch hp).turned (t':=s8.toks) (fun b o hb e=>(sb9.2 b hb).trans e) hD8 d1 d3 d4 d5
    ·exact T.keep _ _ _ st8 fun b hb o e=>(sb9.2 b (fun z=>hDf (z▸hb))).trans e
 exact codeAny_compStart_list (loop _ rfl) (T.self _ 0 _ _ _ st₁ (loop _ rfl))
def tComp(k:Nat)(caps:List Nat)(wi:TI)(g:TG)(tf:TT)(te:TE):TE:=fun σ H Q=>wi σ H fun J H1=>CompJ J g tf te Q (initC k caps σ) H1
theorem Caps.cl{scope:Scope}{ns:List Str}{caps:List Nat}(I:Inv X pins σ H s)(S:CScope scope ns)(cp:Caps X scope ns caps):closureFor scope X.env=pure (clOf X.env scope.names []):=
 closureFor_cl fun y hy hfr=>I.ok.has y.1 (cp.mem (S.frees y hy hfr))
theorem pe_comp{own ns:List Str}{caps:List Nat}{elt tg iter:Expr}{ifs:List Expr}{scope:Scope}{pos:Pos}{wi:TI}{g:TG}{tf:TT}{te:TE}(hc:X.calm=true)(S:CScope scope ns)(cp:Caps X scope ns caps)(hi:PI X tg iter wi)
  (hg:∀ C s H fp pn,PG (cxC X (own++ns) scope C s H fp pn) tg g) (ht:∀ C s H fp pn,PF (cxC X (own++ns) scope C s H fp pn) ifs tf) (he:∀ C s H fp pn,PE (cxC X (own++ns) scope C s H fp pn) elt te)
  (hs:∀ x,foldedSetIterable iter X.env x=pure x:=by intro _;rfl):PE X (.ListComp elt [⟨tg,iter,ifs,0⟩] scope pos) (tComp own.length caps wi g tf te):=by
 intro pins s σ H Q I h
 rw [eval_ListComp]
 refine wpAny_comprehension_free (use:=none) rfl hs (cp.cl I S) S.kind S.names (thn (hi pins s σ H _ I h) fun v s1 h1=>thn h1 fun itv s2 h2=>?_)
 obtain⟨it,fp,tn,J,H2,e,I2,T,st2,f2,hJ⟩:=h2
 subst e
 refine comp_run hc S cp hg ht he I2 T st2 f2 hJ (RR:=fun acc C=>compPost (model X.prog X.w) X.A X.xe none (EP X pins σ Q) acc C) fun D C m s' H' ys hDC hn fC I' q=>?_
 refine⟨m,hn,fun h' hs'=>⟨.ref D,_,?_,rfl,q⟩⟩
 obtain⟨f0,f1,f2,f3,f4,f5⟩:=fC
 exact I'.turned (t':=s'.toks) (fun b o hb e=>(hs'.2 b hb).trans e) f0 f1 f3 f4 f5
theorem ps_setC{i:Nat}{x:Str}{own ns:List Str}{caps:List Nat}{elt tg iter:Expr}{ifs:List Expr}{scope:Scope}{pos pos' spos:Pos}{wi:TI}{g:TG}{tf:TT}{te:TE}(hN:X.N.Nodup)(hi:X.N[i]? = some x)(hx:Loc X.env.scope x)(hc:X.calm=true)(S:CScope scope ns)(cp:Caps X scope ns caps)(hit:PI X tg iter wi)
  (hg:∀ C s H fp pn,PG (cxC X (own++ns) scope C s H fp pn) tg g) (ht:∀ C s H fp pn,PF (cxC X (own++ns) scope C s H fp pn) ifs tf) (he:∀ C s H fp pn,PE (cxC X (own++ns) scope C s H fp pn) elt te)
  (hs:∀ x,foldedSetIterable iter X.env x=pure x:=by intro _;rfl) (hsw:swapsWith (.ListComp elt [⟨tg,iter,ifs,0⟩] scope pos) (some (.Name x pos')) spos.line X.env=pure true:=by rfl)
  (hf:X.fn x=true\/X.env.scope.names.lookup x=some .local:=by first | exact .inl rfl | exact .inr rfl | assumption) :
  PS X (.Assign [.Name x pos'] (.ListComp elt [⟨tg,iter,ifs,0⟩] scope pos) spos) (tAsg (tComp own.length caps wi g tf te) (gName i)):=by
 intro pins s σ H D I h
 rw [exec_Assign_Name_used _ _ _ _ hsw]
 refine wpAny_bind (wpAny_standAt (wpAny_bind ?_))
 show wpAny _ X.A (do let _ <-comprehension (.ListComp elt [⟨tg,iter,ifs,0⟩] scope pos) scope X.env _ (newList []) false (eval iter X.env) (some (assign (.Name x pos') X.env))) _ _ s
 refine wpAny_bind (wpAny_mono (wpAny_comprehension_free (use:=some (assign (.Name x pos') X.env)) (Q:=fun _ s'=>SP X pins D .next s') rfl hs (cp.cl I S) S.kind S.names
  (thn (hit pins s σ H _ I h) fun v s1 h1=>thn h1 fun itv s2 h2=>?_)) (fun _ s' hq=>wpAny_pure (wpAny_pure hq)) fun _ _ e=>e)
 obtain⟨it,fp,tn,J,H2,e,I2,T,st2,f2,hJ⟩:=h2
 subst e
 refine comp_run hc S cp hg ht he I2 T st2 f2 hJ (RR:=fun acc C=>compPost (model X.prog X.w) X.A X.xe (some (assign (.Name x pos') X.env)) (fun _ s'=>SP X pins D .next s') acc C) fun L C m s' H' ys hDC hn fC I' q=>?_
 show wpAny _ X.A (assign (.Name x pos') X.env (.ref L)) _ _ _
 refine wpAny_assign_Name (store_ok2 I' hN hi hx (v:=.ref L) (u:=.ref L) rfl (fun s'' I'' ⟨a,sb,ha⟩=>?_) hf)
 obtain⟨f0,f1,f2,f3,f4,f5⟩:=fC
 have hCa:C≠a:=by
  rcases ha with z | z
  ·rw [z];exact f1
  ·exact fun y=>f4 _ _ z y.symm
 exact⟨m,hn.sameBut sb hCa,fun h' hs'=>⟨_,_,I''.turned (t':=s''.toks) (fun b o hb e=>(hs'.2 b hb).trans e) f0 f1 f3 f4 f5,q⟩⟩
theorem w_compL{k:Nat}{caps:List Nat}{K:PySem.W.Frag}{tl:TE}{g:TG}{tf:TT}{te:TE}{Q:VK}:tComp k caps (iList K tl) g tf te σ H Q=tl σ H fun x H1=>∃ a,x=.ref a/\(∃ xs,SqL K H1 a xs)/\CompJ (Itl K a) g tf te Q (initC k caps σ) H1:=rfl
theorem w_compT{k:Nat}{caps:List Nat}{K:PySem.W.Frag}{tl:TE}{g:TG}{tf:TT}{te:TE}{Q:VK}:tComp k caps (iTup K tl) g tf te σ H Q=tl σ H fun x H1=>∃ a,x=.ref a/\(∃ xs,SqT K H1 a xs)/\CompJ (Itt K a) g tf te Q (initC k caps σ) H1:=rfl
theorem w_comp1{k:Nat}{caps:List Nat}{ta:TA}{g:TG}{tf:TT}{te:TE}{Q:VK}:tComp k caps (iRng1 ta) g tf te σ H Q=ta σ H fun vs H1=>∃ j:Int,vs=[.int j]/\-(2 ^ 62)<=j/\j<2 ^ 62/\CompJ (Itr 0 j.toNat) g tf te Q (initC k caps σ) H1:=rfl
theorem w_comp2{k:Nat}{caps:List Nat}{ta:TA}{g:TG}{tf:TT}{te:TE}{Q:VK}:tComp k caps (iRng2 ta) g tf te σ H Q=ta σ H fun vs H1=>∃ i j:Int,vs=[.int i,.int j]/\(-(2 ^ 62)<=i/\i<2 ^ 62/\-(2 ^ 62)<=j/\j<2 ^ 62)/\CompJ (Itr i (j - i).toNat) g tf te Q (initC k caps σ) H1:=rfl
theorem w_init0{x:Str}{l:List Str}{caps:List Nat}:initC (x::l).length caps σ=none::initC l.length caps σ:=rfl
theorem w_initS{i:Nat}{is:List Nat}:initC ([]:List Str).length (i::is) σ=getJ σ i::initC ([]:List Str).length is σ:=rfl
theorem w_initN:initC ([]:List Str).length [] σ=[]:=rfl
theorem w_get0{x:Option V}:getJ (x::σ) 0=x:=rfl
theorem w_getS{x:Option V}{i:Nat}:getJ (x::σ) (i+1)=getJ σ i:=rfl
theorem w_noif{q:Bool->Hp->Prop}:tNoIf σ H q=q true H:=rfl
end
section
variable {K:PySem.W.Frag} {a:Addr} {xs:List V} {g:TG} {tf:TT} {te:TE} {Q:VK} {σ:St} {H:Hp}
theorem comp_by{J:It}(n:Nat)(hsz:n<=sizeLine)(Pv:Nat->List V->St->Hp->Prop)(h0:Pv 0 [] σ H)(hlen:∀ i ys σ H,Pv i ys σ H->ys.length<=i)(hgo:∀ i ys σ H,i<n->Pv i ys σ H->J.go i H)(hstop:∀ ys σ H,Pv n ys σ H->J.stop n H)
  (hs:∀ i ys σ H x H' (N:List V->St->Hp->Prop),i<n->Pv i ys σ H->J.yld i H x H'->(∀ ys σ H,Pv (i+1) ys σ H->N ys σ H)->g x σ H' fun σ2 H2=>tf σ2 H2 fun b H3=>if b=true then te σ2 H3 fun y H4=>N (ys++[y]) σ2 H4 else N ys σ2 H3)
  (hd:∀ ys σ H p,Pv n ys σ H->H p=none->Q (.ref p) (upd H p (.lst ys))):CompJ J g tf te Q σ H:=by
 refine⟨fun i m ys σ H=>m=n - i/\i<=n/\Pv i ys σ H,⟨n,by simp,Nat.zero_le _,h0⟩,?_⟩
 rintro i m ys σ H ⟨rfl,hi,p⟩
 have hy:=hlen i ys σ H p
 by_cases hlt:i<n
 ·refine .inr ⟨hgo i ys σ H hlt p,by omega,fun x H' y=>?_⟩
  exact hs i ys σ H x H' (fun ys σ H=>∃ m',m'<n - i/\m'=n - (i+1)/\i+1<=n/\Pv (i+1) ys σ H) hlt p y fun ys σ H z=>⟨n - (i+1),by omega,rfl,hlt,z⟩
 ·have e:i=n:=by omega
  subst e
  exact .inl ⟨hstop ys σ H p,by omega,fun p' hp=>hd ys σ H p' p hp⟩
theorem comp_list(Pv:Nat->List V->St->Hp->Prop)(h0:Pv 0 [] σ H)(hl:∀ i ys σ H,Pv i ys σ H->SqL K H a xs/\ys.length<=i)(hsz:xs.length<=sizeLine)
  (hs:∀ i x ys σ H (N:List V->St->Hp->Prop),xs[i]? = some x->Pv i ys σ H->(∀ ys σ H,Pv (i+1) ys σ H->N ys σ H)->g x σ H fun σ2 H2=>tf σ2 H2 fun b H3=>if b=true then te σ2 H3 fun y H4=>N (ys++[y]) σ2 H4 else N ys σ2 H3)
  (hd:∀ ys σ H p,Pv xs.length ys σ H->H p=none->Q (.ref p) (upd H p (.lst ys))):CompJ (Itl K a) g tf te Q σ H:=by
 refine comp_by xs.length hsz Pv h0 (fun i ys σ H p=>(hl i ys σ H p).2) (fun i ys σ H hi p=>⟨xs,xs[i],(hl i ys σ H p).1,by simp [hi]⟩) (fun ys σ H p=>⟨xs,(hl _ ys σ H p).1,Nat.le_refl _⟩) ?_ hd
 rintro i ys σ H x H' N hi p ⟨rfl,y⟩ hN
 exact hs i x ys σ H' N (y xs (hl i ys σ _ p).1) p hN
theorem comp_map{J:It}(n:Nat)(hsz:n<=sizeLine){rest:St}(xs ys:List V)(hl:ys.length=n)(hgo:∀ i,i<n->J.go i H)(hstop:J.stop n H)(hy:∀ i x H',i<n->J.yld i H x H'->H'=H/\xs[i]? = some x)
  (hs:∀ (i:Nat) (x y:V) (Q':VK),xs[i]? = some x->ys[i]? = some y->Q' y H->te (some x::rest) H Q')
  (q:∀ p,H p=none->Q (.ref p) (upd H p (.lst ys))):CompJ J (gName 0) tNoIf te Q (none::rest) H:=by
 refine comp_by n hsz (fun i zs σ H'=>H'=H/\zs=ys.take i/\∃ x,σ=x::rest) ⟨rfl,by simp,_,rfl⟩ ?_ ?_ ?_ ?_ ?_
 ·rintro i zs σ H' ⟨rfl,rfl,_⟩
  rw [List.length_take];omega
 ·rintro i zs σ H' hi ⟨rfl,_,_⟩
  exact hgo i hi
 ·rintro zs σ H' ⟨rfl,_,_⟩
  exact hstop
 ·rintro i zs σ H1 x H' N hi ⟨rfl,rfl,z,rfl⟩ y hN
  obtain⟨rfl,hx⟩:=hy i x H' hi y
  show te (some x::rest) H' _
  have hyi:ys[i]? = some ys[i]:=List.getElem?_eq_getElem (by omega)
  refine hs i x ys[i] _ hx hyi (hN _ _ _ ⟨rfl,?_,_,rfl⟩)
  rw [List.take_add_one,hyi];rfl
 ·rintro zs σ H' p ⟨rfl,rfl,_⟩ hp
  rw [<-hl,List.take_length]
  exact q p hp
theorem comp_mapL{rest:St}(hx:SqL K H a xs)(hsz:xs.length<=sizeLine)(ys:List V)(hl:ys.length=xs.length)
  (hs:∀ (i:Nat) (x y:V) (Q':VK),xs[i]? = some x->ys[i]? = some y->Q' y H->te (some x::rest) H Q')
  (q:∀ p,H p=none->Q (.ref p) (upd H p (.lst ys))):CompJ (Itl K a) (gName 0) tNoIf te Q (none::rest) H:=by
 refine comp_map xs.length hsz xs ys hl (fun i hi=>⟨xs,xs[i],hx,by simp [hi]⟩) ⟨xs,hx,Nat.le_refl _⟩ (fun i x H' hi y=>⟨y.1,y.2 xs hx⟩) hs q
theorem comp_mapR{lo:Int}{n:Nat}{rest:St}(hsz:n<=sizeLine)(ys:List V)(hl:ys.length=n)
  (hs:∀ (i:Nat) y (Q':VK),i<n->ys[i]? = some y->Q' y H->te (some (.int (lo+i))::rest) H Q')
  (q:∀ p,H p=none->Q (.ref p) (upd H p (.lst ys))):CompJ (Itr lo n) (gName 0) tNoIf te Q (none::rest) H:=by
 refine comp_map n hsz ((List.range n).map fun i:Nat=>V.int (lo+i)) ys hl (fun i hi=>hi) (Nat.le_refl _) (fun i x H' hi y=>⟨y.1,by simp [hi,y.2]⟩) (fun i x y Q' hx hy hq=>?_) q
 have hi:i<n:=by
  have:=(List.getElem?_eq_some_iff.mp hx).1
  simpa using this
 have e:x=.int (lo+i):=by simp [hi] at hx;exact hx.symm
 subst e
 exact hs i y Q' hi hy hq
end
end L2
namespace Rm
open PySem L2
def isBowD:PyData->Bool
 | .tuple [.int a,.int b]=>decide (a<b)
 | _=>false
def bowOf:PyData->Bw
 | .tuple [.int a,.int b]=>(a,b)
 | _=>(0,0)
theorem isBowD_shape:∀ {d:PyData},isBowD d=true->d=bowD (bowOf d)/\(bowOf d).1<(bowOf d).2
 | .tuple [.int a,.int b],h=>⟨rfl,of_decide_eq_true h⟩
def endsZ(ps:List Bw):List Int:=ps.map (·.1)++ps.map (·.2)
theorem endsZ_len(ps:List Bw):(endsZ ps).length=2 * ps.length:=by simp [endsZ];omega
def fillZ(ps:List Bw):Bool:=(endsZ ps).isPerm (rngZ 0 (2 * ps.length))
def fillsD:PyData->Bool
 | .list ds=>decide (2 * ds.length<=40)&&(ds.all isBowD&&fillZ (ds.map bowOf))
 | _=>false
theorem rngZ_asc(n:Nat):(rngZ 0 n).Pairwise (·<=·):=by
 unfold rngZ
 rw [List.pairwise_map,List.pairwise_iff_getElem]
 intro i j hi hj hij
 simp;omega
theorem sorted_fill{ms:List Int}{ps:List Bw}(hp:ms.Perm (endsZ ps))(hs:ms.Pairwise (·<=·)):decide (ms=rngZ 0 (2 * ps.length))=fillZ ps:=by
 unfold fillZ
 by_cases h:(endsZ ps).Perm (rngZ 0 (2 * ps.length))
 ·rw [List.isPerm_iff.mpr h]
  exact decide_eq_true (PySem.W.ksm_same (hp.trans h) hs (rngZ_asc _))
 ·have h2:(endsZ ps).isPerm (rngZ 0 (2 * ps.length))=false:=by
   cases e:(endsZ ps).isPerm (rngZ 0 (2 * ps.length)) with
   | false=>rfl
   | true=>exact absurd (List.isPerm_iff.mp e) h
  rw [h2]
  exact decide_eq_false fun e=>h (e▸hp.symm)
def wholeD(d:PyData):Bool:=isI d&&!isB d
def spIsBow:Sp:=fun vs H Q _=>∃ x d,vs=[x]/\Dat H x d/\Q (.bl (isBowD d)) H
def spFills:Sp:=fun vs H Q _=>∃ x d,vs=[x]/\Dat H x d/\∀ H',Same H H'->Q (.bl (fillsD d)) H'
theorem whole_of{K:PySem.W.Frag}{H:Hp}{x:V}{d:PyData}{Q:VK}{E:XK}(h:Dat H x d)(q:Q (.bl (wholeD d)) H):spWhole K [x] H Q E:=
 ⟨x,_,isI d,isB d,rfl,h.ty,by cases h<;>rfl,by cases h<;>rfl,q⟩
theorem dat_two{H:Hp}{xs:List V}{d e:PyData}(h:DatL H xs [d,e]):∃ x y,xs=[x,y]/\Dat H x d/\Dat H y e:=by
 cases h with
 | cons h1 h2=>
  cases h2 with
  | cons h3 h4=>cases h4;exact⟨_,_,rfl,h1,h3⟩
theorem bow_at{H:Hp}{x:V}{d:PyData}(h:Dat H x d)(hb:isBowD d=true):∃ a,x=.ref a/\tupAt H a (bowOf d):=by
 obtain⟨e,_⟩:=isBowD_shape hb
 rw [e] at h
 unfold bowD at h
 cases h with
 | tup h1 h2=>
  obtain⟨u,v,rfl,hu,hv⟩:=dat_two h2
  cases hu;cases hv
  exact⟨_,rfl,h1⟩
theorem fillsD_bows(ps:List Bw):fillsD (bowsD ps)=(decide (2 * ps.length<=40)&&(ps.all (fun p=>decide (p.1<p.2))&&fillZ ps)):=by
 show (decide (2 * (ps.map bowD).length<=40)&&((ps.map bowD).all isBowD&&fillZ ((ps.map bowD).map bowOf)))=_
 rw [List.length_map,List.map_map,List.all_map]
 have e:(bowOf∘bowD)=id:=rfl
 rw [e,List.map_id]
 rfl
end Rm
namespace Rm
structure Stk (bs:List Bool) (i:Nat) (ws:List Nat) (bows:List (Nat×Nat)):Prop where
 at_:∀ (j p:Nat),ws[j]? = some p->p<i/\bs[p]? = some true/\D bs p=j/\∀ q,p<q->q<=i->D bs p<D bs q
 wlen:(ws.length:Int)=D bs i
 mate:∀ b∈bows,Mate bs b.1 b.2/\b.2<i
 all:∀ p,p<i->bs[p]? = some true->p∈ws\/∃ m,(p,m)∈bows
 inc:bows.Pairwise (fun a b=>a.2<b.2)
 il:i<=bs.length
 len:ws.length+2 * bows.length=i
theorem Stk.start(bs:List Bool):Stk bs 0 [] []:=
 ⟨fun j p h=>by simp at h,by simp [D],(fun b h=>nomatch h),fun p h=>by omega,.nil,Nat.zero_le _,rfl⟩
theorem Stk.opens{bs:List Bool}{i:Nat}{ws:List Nat}{bows:List (Nat×Nat)}(S:Stk bs i ws bows)(h:bs[i]? = some true):Stk bs (i+1) (ws++[i]) bows:=by
 have hs:=D_succ h
 simp only [dl,if_true] at hs
 have hl:=S.wlen
 refine⟨fun j p hj=>?_,?_,fun b hb=>⟨(S.mate b hb).1,by have:=(S.mate b hb).2;omega⟩,fun p hp ho=>?_,S.inc,(List.getElem?_eq_some_iff.mp h).1,by have:=S.len;simp only [List.length_append,List.length_singleton];omega⟩
 ·by_cases e:j<ws.length
  ·rw [List.getElem?_append_left e] at hj
   obtain⟨h1,h2,h3,h4⟩:=S.at_ j p hj
   refine⟨by omega,h2,h3,fun q a b=>?_⟩
   by_cases c:q<=i
   ·exact h4 q a c
   ·have:q=i+1:=by omega
    subst this
    have:=h4 i (by omega) (Nat.le_refl _)
    omega
  ·rw [List.getElem?_append_right (by omega)] at hj
   have hj0:j - ws.length=0:=by
    have:=(List.getElem?_eq_some_iff.mp hj).1
    simp at this;omega
   rw [hj0] at hj
   have:p=i:=by simpa using hj.symm
   subst this
   refine⟨by omega,h,by omega,fun q a b=>?_⟩
   have:q=p+1:=by omega
   subst this
   omega
 ·simp only [List.length_append,List.length_singleton];omega
 ·by_cases e:p=i
  ·subst e;exact .inl (by simp)
  ·rcases S.all p (by omega) ho with z | z
   ·exact .inl (List.mem_append_left _ z)
   ·exact .inr z
theorem Stk.has{bs:List Bool}{i:Nat}{ws:List Nat}{bows:List (Nat×Nat)}(S:Stk bs i ws bows)(b:Bal bs)(h:bs[i]? = some false):∃ ws' p,ws=ws'++[p]:=by
 have hs:=D_succ h
 simp only [dl,Bool.false_eq_true,if_false] at hs
 have hl:=S.wlen
 have hi:=(List.getElem?_eq_some_iff.mp h).1
 have:=b.nn (i+1) (by omega)
 have hne:ws≠[]:=fun e=>by rw [e] at hl;simp at hl;omega
 exact⟨ws.dropLast,ws.getLast hne,(List.dropLast_concat_getLast hne).symm⟩
theorem Stk.closes{bs:List Bool}{i p:Nat}{ws:List Nat}{bows:List (Nat×Nat)}(S:Stk bs i (ws++[p]) bows)(h:bs[i]? = some false):Stk bs (i+1) ws (bows++[(p,i)]):=by
 have hs:=D_succ h
 simp only [dl,Bool.false_eq_true,if_false] at hs
 have hl:=S.wlen
 simp only [List.length_append,List.length_singleton] at hl
 obtain⟨p1,p2,p3,p4⟩:=S.at_ ws.length p (by simp)
 have hi:=(List.getElem?_eq_some_iff.mp h).1
 have M:Mate bs p i:=⟨p1,hi,p2,h,by omega,p4⟩
 refine⟨fun j q hj=>?_,by omega,fun b hb=>?_,fun q hq ho=>?_,?_,hi,by have:=S.len;simp only [List.length_append,List.length_singleton] at this ⊢;omega⟩
 ·have hjl:=(List.getElem?_eq_some_iff.mp hj).1
  obtain⟨h1,h2,h3,h4⟩:=S.at_ j q (by rw [List.getElem?_append_left hjl];exact hj)
  refine⟨by omega,h2,h3,fun x a b=>?_⟩
  by_cases c:x<=i
  ·exact h4 x a c
  ·have:x=i+1:=by omega
   subst this
   omega
 ·rcases List.mem_append.mp hb with hb | hb
  ·exact⟨(S.mate b hb).1,by have:=(S.mate b hb).2;omega⟩
  ·have:b=(p,i):=by simpa using hb
   subst this
   exact⟨M,Nat.lt_succ_self i⟩
 ·by_cases e:q=i
  ·subst e;rw [h] at ho;simp at ho
  ·rcases S.all q (by omega) ho with z | ⟨m,z⟩
   ·rcases List.mem_append.mp z with z | z
    ·exact .inl z
    ·have:q=p:=by simpa using z
     subst this
     exact .inr ⟨i,by simp⟩
   ·exact .inr ⟨m,List.mem_append_left _ z⟩
 ·refine List.pairwise_append.mpr ⟨S.inc,by simp,fun a ha b hb=>?_⟩
  have:b=(p,i):=by simpa using hb
  subst this
  exact (S.mate a ha).2
theorem Stk.mem{bs:List Bool}{ws:List Nat}{bows ms:List (Nat×Nat)}(S:Stk bs bs.length ws bows)(b:Bal bs)(M:Mates bs bs.length ms)(x:Nat×Nat):x∈bows<->x∈ms:=by
 have hw:ws=[]:=by
  have:=S.wlen
  rw [b.z] at this
  exact List.eq_nil_of_length_eq_zero (by omega)
 subst hw
 refine⟨fun h=>?_,fun h=>?_⟩
 ·obtain⟨m,_⟩:=S.mate x h
  have hx:=(List.getElem?_eq_some_iff.mp m.op).1
  obtain⟨y,hy⟩:=M.all x.1 hx m.op
  have:=m.uniq (M.mate _ hy).1
  rw [show x=(x.1,y) from Prod.ext rfl this]
  exact hy
 ·obtain⟨m,hx⟩:=M.mate x h
  rcases S.all x.1 hx m.op with z | ⟨y,hy⟩
  ·exact nomatch z
  ·have:=m.uniq (S.mate _ hy).1
   rw [show x=(x.1,y) from Prod.ext rfl this]
   exact hy
theorem inc_ext:∀ (xs ys:List (Nat×Nat)),xs.Pairwise (fun a b=>a.1<b.1)->ys.Pairwise (fun a b=>a.1<b.1)->(∀ x,x∈xs<->x∈ys)->xs=ys
 | [],[],_,_,_=>rfl
 | [],y::ys,_,_,h=>absurd ((h y).mpr List.mem_cons_self) (by simp)
 | x::xs,[],_,_,h=>absurd ((h x).mp List.mem_cons_self) (by simp)
 | x::xs,y::ys,hx,hy,h=>by
  obtain⟨hx1,hx2⟩:=List.pairwise_cons.mp hx
  obtain⟨hy1,hy2⟩:=List.pairwise_cons.mp hy
  have e:x=y:=by
   rcases List.mem_cons.mp ((h x).mp List.mem_cons_self) with e | e
   ·exact e
   ·rcases List.mem_cons.mp ((h y).mpr List.mem_cons_self) with e' | e'
    ·exact e'.symm
    ·have:=hx1 y e'
     have:=hy1 x e
     omega
  subst e
  congr 1
  refine inc_ext xs ys hx2 hy2 fun z=>⟨fun hz=>?_,fun hz=>?_⟩
  ·rcases List.mem_cons.mp ((h z).mp (List.mem_cons_of_mem _ hz)) with e | e
   ·subst e;have:=hx1 z hz;omega
   ·exact e
  ·rcases List.mem_cons.mp ((h z).mpr (List.mem_cons_of_mem _ hz)) with e | e
   ·subst e;have:=hy1 z hz;omega
   ·exact e
theorem Stk.sorted{bs:List Bool}{ws:List Nat}{bows ms out:List (Nat×Nat)}(S:Stk bs bs.length ws bows)(b:Bal bs)(M:Mates bs bs.length ms)(hp:out.Perm bows)
  (hs:out.Pairwise (fun a b=>a.1<b.1\/a.1=b.1/\a.2<=b.2)):out=ms:=by
 refine inc_ext out ms ?_ M.inc fun x=>(hp.mem_iff).trans (S.mem b M x)
 have nd:bows.Nodup:=S.inc.imp fun {a b} h e=>by rw [e] at h;omega
 have nd':out.Nodup:=(hp.nodup_iff).mpr nd
 have key:∀ l:List (Nat×Nat),(∀ x∈l,Mate bs x.1 x.2)->l.Nodup->l.Pairwise (fun a b=>a.1<b.1\/a.1=b.1/\a.2<=b.2)->l.Pairwise (fun a b=>a.1<b.1):=by
  intro l hm hn hq
  induction l with
  | nil=>exact .nil
  | cons a l ih=>
   obtain⟨h1,h2⟩:=List.pairwise_cons.mp hq
   obtain⟨n1,n2⟩:=List.nodup_cons.mp hn
   refine List.pairwise_cons.mpr ⟨fun c hc=>?_,ih (fun x hx=>hm x (List.mem_cons_of_mem _ hx)) n2 h2⟩
   rcases h1 c hc with z | ⟨z,_⟩
   ·exact z
   ·have ma:=hm a List.mem_cons_self
    have mc:=hm c (List.mem_cons_of_mem _ hc)
    rw [<-z] at mc
    have e:=ma.uniq mc
    exact absurd (show c∈l from hc) (by rw [show c=a from Prod.ext z.symm e.symm];exact n1)
 exact key out (fun x hx=>(S.mate x (hp.mem_iff.mp hx)).1) nd' hs
end Rm
namespace Rm
open PySem L2
theorem Stk.ex{bs:List Bool}(b:Bal bs):∀ i,i<=bs.length->∃ ws bw,Stk bs i ws bw/\∀ q,q<i->bs[q]? = some false->∃ p,(p,q)∈bw
 | 0,_=>⟨[],[],Stk.start bs,fun q h=>by omega⟩
 | i+1,hi=>by
  obtain⟨ws,bw,S,c⟩:=Stk.ex b i (by omega)
  have hb:bs[i]? = some bs[i]:=List.getElem?_eq_getElem (by omega)
  cases e:bs[i] with
  | true=>
   rw [e] at hb
   refine⟨_,_,S.opens hb,fun q hq hf=>?_⟩
   by_cases z:q=i
   ·subst z;rw [hb] at hf;cases hf
   ·exact c q (by omega) hf
  | false=>
   rw [e] at hb
   obtain⟨ws',p,rfl⟩:=S.has b hb
   refine⟨_,_,S.closes hb,fun q hq hf=>?_⟩
   by_cases z:q=i
   ·subst z;exact⟨p,by simp⟩
   ·obtain⟨p',hp⟩:=c q (by omega) hf
    exact⟨p',List.mem_append_left _ hp⟩
theorem Mates.closed{bs:List Bool}{ms:List (Nat×Nat)}(M:Mates bs bs.length ms)(b:Bal bs){q:Nat}(h:bs[q]? = some false):∃ p,(p,q)∈ms:=by
 obtain⟨ws,bw,S,c⟩:=Stk.ex b bs.length (Nat.le_refl _)
 obtain⟨p,hp⟩:=c q (List.getElem?_eq_some_iff.mp h).1 h
 exact⟨p,(S.mem b M (p,q)).mp hp⟩
theorem Mates.count{bs:List Bool}{ms:List (Nat×Nat)}(M:Mates bs bs.length ms)(b:Bal bs):2 * ms.length=bs.length:=by
 obtain⟨ws,bw,S,c⟩:=Stk.ex b bs.length (Nat.le_refl _)
 have hw:ws=[]:=by
  have:=S.wlen
  rw [b.z] at this
  exact List.eq_nil_of_length_eq_zero (by omega)
 subst hw
 have hl:=S.len
 have nd1:bw.Nodup:=S.inc.imp fun {a b} h e=>by rw [e] at h;omega
 have nd2:ms.Nodup:=M.inc.imp fun {a b} h e=>by rw [e] at h;omega
 have hp:bw.Perm ms:=by
  rw [List.perm_iff_count]
  intro x
  rw [nd1.count,nd2.count]
  by_cases h:x∈bw
  ·rw [if_pos h,if_pos ((S.mem b M x).mp h)]
  ·rw [if_neg h,if_neg (fun z=>h ((S.mem b M x).mpr z))]
 have:=hp.length_eq
 simp at hl
 omega
theorem Mate.noCross{bs:List Bool}{k m k' m':Nat}(a:Mate bs k m)(b:Mate bs k' m'):¬ (k<k'/\k'<m/\m<m'):=fun ⟨h1,h2,h3⟩=>by
 have e1:=a.gt k' h1 (by omega)
 have e2:=b.gt (m+1) (by omega) (by omega)
 have:=a.eq
 omega
theorem mem_msZ{ms:List (Nat×Nat)}{p:Bw}(h:p∈msZ ms):∃ x∈ms,p=((x.1:Int),(x.2:Int)):=by
 obtain⟨x,hx,rfl⟩:=List.mem_map.mp h
 exact⟨x,hx,rfl⟩
theorem mem_rngZ{x:Int}{n:Nat}:x∈rngZ 0 n<->0<=x/\x<n:=by
 unfold rngZ
 rw [List.mem_map]
 constructor
 ·rintro⟨i,hi,rfl⟩
  have:=List.mem_range.mp hi
  omega
 ·rintro⟨h1,h2⟩
  exact⟨x.toNat,List.mem_range.mpr (by omega),by omega⟩
theorem rngZ_nodup(n:Nat):(rngZ 0 n).Nodup:=by
 unfold rngZ List.Nodup
 rw [List.pairwise_map]
 exact (List.nodup_range (n:=n)).imp fun h e=>h (by omega)
theorem perm_rng{l:List Int}{n:Nat}(nd:l.Nodup)(h:∀ x,x∈l<->0<=x/\x<n):l.Perm (rngZ 0 n):=by
 rw [List.perm_iff_count]
 intro x
 rw [nd.count,(rngZ_nodup n).count]
 by_cases z:x∈l
 ·rw [if_pos z,if_pos (mem_rngZ.mpr ((h x).mp z))]
 ·rw [if_neg z,if_neg (fun y=>z ((h x).mpr (mem_rngZ.mp y)))]
theorem mates_ends{bs:List Bool}{ms:List (Nat×Nat)}(M:Mates bs bs.length ms)(b:Bal bs):(endsZ (msZ ms)).Perm (rngZ 0 bs.length):=by
 refine perm_rng ?_ fun x=>?_
 ·unfold endsZ
  have nf:((msZ ms).map (·.1)).Nodup:=by
   unfold msZ List.Nodup
   rw [List.map_map,List.pairwise_map]
   exact M.inc.imp fun h=>by simp;omega
  have ns:((msZ ms).map (·.2)).Nodup:=by
   unfold msZ List.Nodup
   rw [List.map_map,List.pairwise_map]
   refine List.Pairwise.imp_of_mem (fun {x y} hx hy h=>?_) M.inc
   show ¬ ((x.2:Int)=(y.2:Int))
   intro e
   have e':x.2=y.2:=by omega
   have mx:=(M.mate x hx).1
   have my:=(M.mate y hy).1
   rw [e'] at mx
   have:=mx.uniqL my
   omega
  rw [List.nodup_append]
  refine⟨nf,ns,fun a ha c hc e=>?_⟩
  obtain⟨p,hp,rfl⟩:=List.mem_map.mp ha
  obtain⟨q,hq,rfl⟩:=List.mem_map.mp hc
  obtain⟨x,hx,rfl⟩:=mem_msZ hp
  obtain⟨y,hy,rfl⟩:=mem_msZ hq
  have e':x.1=y.2:=by simp at e;omega
  have mx:=(M.mate x hx).1.op
  have my:=(M.mate y hy).1.cl
  rw [e',my] at mx
  cases mx
 ·unfold endsZ
  rw [List.mem_append]
  constructor
  ·rintro (h | h)
   ·obtain⟨p,hp,rfl⟩:=List.mem_map.mp h
    obtain⟨y,hy,rfl⟩:=mem_msZ hp
    have:=(M.mate y hy).1.lt
    have:=(M.mate y hy).1.ml
    simp only
    omega
   ·obtain⟨p,hp,rfl⟩:=List.mem_map.mp h
    obtain⟨y,hy,rfl⟩:=mem_msZ hp
    have:=(M.mate y hy).1.ml
    simp only
    omega
  ·rintro⟨h0,h1⟩
   obtain⟨n,rfl⟩:∃ n:Nat,x=n:=⟨x.toNat,by omega⟩
   have hn:n<bs.length:=by omega
   have hb:bs[n]? = some bs[n]:=List.getElem?_eq_getElem hn
   cases e:bs[n] with
   | true=>
    rw [e] at hb
    obtain⟨m,hm⟩:=M.all n hn hb
    exact .inl (List.mem_map.mpr ⟨((n:Int),(m:Int)),List.mem_map.mpr ⟨(n,m),hm,rfl⟩,rfl⟩)
   | false=>
    rw [e] at hb
    obtain⟨p,hp⟩:=M.closed b hb
    exact .inr (List.mem_map.mpr ⟨((p:Int),(n:Int)),List.mem_map.mpr ⟨(p,n),hp,rfl⟩,rfl⟩)
theorem ends_perm{ps qs:List Bw}(h:ps.Perm qs):(endsZ ps).Perm (endsZ qs):=(h.map _).append (h.map _)
def wordB(ps:List Bw):List Bool:=(List.range (2 * ps.length)).map fun e:Nat=>decide ((e:Int)∈ps.map (·.1))
def sgn (b:Bool):Str:=if b then Str.ofString "(" else Str.ofString ")"
theorem sgn_cps(b:Bool):(sgn b).cps=#[cpB b]:=by
 unfold sgn
 cases b
 ·rw [if_neg Bool.false_ne_true,str_close];rfl
 ·rw [if_pos rfl,str_open];rfl
theorem join_fold:∀ (bs:List Bool) (acc:Array Nat),(bs.map sgn).foldl (fun acc p=>acc++(Str.ofString "").cps++p.cps) acc=acc++(bs.map cpB).toArray
 | [],acc=>by simp
 | b::bs,acc=>by
  rw [List.map_cons,List.foldl_cons,join_fold bs,sgn_cps,str_nil]
  simp
theorem join_sgn (bs:List Bool):Txt.join (Str.ofString "") (bs.map sgn)=wd bs:=by
 cases bs with
 | nil=>rfl
 | cons b bs=>
  show Str.mk (((((b::bs).map sgn).drop 1).foldl (fun acc p=>acc++(Str.ofString "").cps++p.cps) (((b::bs).map sgn).headD Str.empty).cps))=_
  rw [List.map_cons,List.drop_one,List.tail_cons,List.headD_cons,join_fold,sgn_cps]
  simp [wd]
end Rm
namespace L2
open PySem PySem.Spec PyProof.Rows
theorem ifN{c:Prop} [Decidable c] {A B:Prop} (h:¬ c) (b:B):if c then A else B:=by rw [if_neg h];exact b
theorem ifY{c:Prop} [Decidable c] {A B:Prop} (h:c) (a:A):if c then A else B:=by rw [if_pos h];exact a
section
variable {X:Cx} {K:PySem.W.Frag}
theorem ix_list'(h:X.K=K):IxR X (rIxL K):=h▸ix_list
theorem ix_tup'(h:X.K=K):IxR X (rIxT K):=h▸ix_tup
theorem op_neD'(h:X.K=K)(hu:X.A.units+64<cLine):OpR X (compareOp .NotEq) (rEqD K true):=h▸op_neD hu
theorem op_inD'(h:X.K=K)(hu:X.A.units+64<cLine):OpR X (compareOp .In) (rInD K false):=h▸op_inD hu
end
end L2
namespace L2
open PySem PySem.Spec PyProof.Rows
def tCut(t u:TS):TS:=fun D σ H=>∃ J:St->Hp->Prop,t { D with nx:=J } σ H/\∀ σ' H',J σ' H'->u D σ' H'
theorem pss_cut{X:Cx}{st:Stmt}{rest:List Stmt}{t u:TS}(h1:PS X st t)(h2:PSs X rest u):PSs X (st::rest) (tCut t u):=by
 intro pins s σ H D I h
 obtain⟨J,h,hJ⟩:=h
 refine wpAny_execs_cons (thn (h1 pins s σ H { D with nx:=J } I h) fun f s1 q=>?_)
 cases f with
 | next=>
  obtain⟨σ',H',I',q⟩:=q
  exact h2 pins s1 σ' H' D I' (hJ _ _ q)
 | ret v=>exact q
 | brk=>exact q
 | cont=>exact q
end L2
namespace L2
open PySem PySem.Spec PyProof.Rows
section
variable {X:Cx} {es:List Expr} {te:TE} {t:TA}
theorem pa_BinOp{a0:PySem.Expr}{a1:PySem.Operator}{a2:PySem.Expr}{a3:PySem.Pos}(ha:PE X (Expr.BinOp a0 a1 a2 a3) te)(hr:PA X es t):PA X ((Expr.BinOp a0 a1 a2 a3)::es) (tCons te t):=pa_cons ha hr rfl
theorem pa_ListComp{a0:PySem.Expr}{a1:List Comprehension}{a2:PySem.Scope}{a3:PySem.Pos}(ha:PE X (Expr.ListComp a0 a1 a2 a3) te)(hr:PA X es t):PA X ((Expr.ListComp a0 a1 a2 a3)::es) (tCons te t):=pa_cons ha hr rfl
theorem pa_Compare{a0:PySem.Expr}{a1:List CmpOp}{a2:List Expr}{a3:PySem.Pos}(ha:PE X (Expr.Compare a0 a1 a2 a3) te)(hr:PA X es t):PA X ((Expr.Compare a0 a1 a2 a3)::es) (tCons te t):=pa_cons ha hr rfl
theorem pa_Call{a0:PySem.Expr}{a1:List Expr}{a2:List Keyword}{a3:PySem.Pos}(ha:PE X (Expr.Call a0 a1 a2 a3) te)(hr:PA X es t):PA X ((Expr.Call a0 a1 a2 a3)::es) (tCons te t):=pa_cons ha hr rfl
theorem pa_Constant{a0:PySem.Const}{a1:Nat}{a2:PySem.Pos}(ha:PE X (Expr.Constant a0 a1 a2) te)(hr:PA X es t):PA X ((Expr.Constant a0 a1 a2)::es) (tCons te t):=pa_cons ha hr rfl
theorem pa_Subscript{a0:PySem.Expr}{a1:PySem.Expr}{a2:PySem.Pos}(ha:PE X (Expr.Subscript a0 a1 a2) te)(hr:PA X es t):PA X ((Expr.Subscript a0 a1 a2)::es) (tCons te t):=pa_cons ha hr rfl
theorem pa_Name{a0:PySem.Str}{a1:PySem.Pos}(ha:PE X (Expr.Name a0 a1) te)(hr:PA X es t):PA X ((Expr.Name a0 a1)::es) (tCons te t):=pa_cons ha hr rfl
theorem pa_Tuple{a0:List Expr}{a1:Nat}{a2:PySem.Pos}(ha:PE X (Expr.Tuple a0 a1 a2) te)(hr:PA X es t):PA X ((Expr.Tuple a0 a1 a2)::es) (tCons te t):=pa_cons ha hr rfl
end
end L2
namespace L2
open PySem PySem.Spec PyProof.Rows
theorem w_gSub{to ti:TE}{t:TSet}{v:V}{σ:St}{H:Hp}{q:St->Hp->Prop}:gSub to ti t v σ H q=to σ H fun o H1=>ti σ H1 fun i H2=>t o i v H2 fun H3=>q σ H3:=rfl
end L2
namespace L2
open PySem PySem.Spec PyProof.Rows
theorem cut_intro{t u:TS}{D:Ends}{σ:St}{H:Hp}(J:St->Hp->Prop)(h1:t { nx:=J,rt:=D.rt,bk:=D.bk,ct:=D.ct } σ H)(h2:∀ σ' H',J σ' H'->u D σ' H'):tCut t u D σ H:=⟨J,h1,h2⟩
end L2
namespace Rm
open PySem PySem.W PyProof.Rows
section
variable {r:Nat->Int} {N:Nat} {cmp:Nat->Nat->(Bool->Shared->Prop)->Shared->Prop} {s:Shared}
def Told(r:Nat->Int)(N:Nat)(cmp:Nat->Nat->(Bool->Shared->Prop)->Shared->Prop)(s:Shared):Prop:=
 ∀ i j,i<N->j<N->∀ C:Bool->Shared->Prop,C (decide (r i<r j)) s->cmp i j C s
def In(N:Nat)(p:Array Nat):Prop:=p.size=N/\∀ i,p.getD i 0<N
def Kk(r:Nat->Int)(p:Array Nat)(i:Nat):Int:=r (p.getD i 0)
def Asc(r:Nat->Int)(p:Array Nat)(k:Nat):Prop:=∀ i j,i<=j->j<k->Kk r p i<=Kk r p j
def Des(r:Nat->Int)(p:Array Nat)(k:Nat):Prop:=∀ i j,i<=j->j<k->Kk r p j<=Kk r p i
theorem Kk_congr{p q:Array Nat}{i j:Nat}(h:p[i]? = q[j]?):Kk r p i=Kk r q j:=by
 unfold Kk
 rw [Array.getD_eq_getD_getElem?,Array.getD_eq_getD_getElem?,h]
theorem Kk_rev{p:Array Nat}{i j:Nat}(hj:j<=p.size)(k:Nat):Kk r (kas_rev p i j) k=if i<=k/\k<j then Kk r p (i+j - 1 - k) else Kk r p k:=by
 have e:=getElem?_mirror_all (i:=i) hj k
 unfold kas_rev
 by_cases h1:i<=k/\k<j
 ·rw [if_pos h1] at e ⊢;exact Kk_congr e
 ·rw [if_neg h1] at e ⊢;exact Kk_congr e
theorem Kk_bubble{p:Array Nat}{src d:Nat}(hs:src<p.size)(hd:d<=src)(k:Nat):Kk r (bubble p src d) k=if k=src - d then Kk r p src else if src - d<k/\k<=src then Kk r p (k - 1) else Kk r p k:=by
 have e:=getElem?_bubble hs d hd k
 by_cases h1:k=src - d
 ·rw [if_pos h1] at e ⊢;exact Kk_congr e
 ·rw [if_neg h1] at e ⊢
  by_cases h2:src - d<k/\k<=src
  ·rw [if_pos h2] at e ⊢;exact Kk_congr e
  ·rw [if_neg h2] at e ⊢;exact Kk_congr e
theorem In.of_perm{p q:Array Nat}(h:In N p)(hp:q.Perm p):In N q:=by
 refine⟨hp.size_eq.trans h.1,fun i=>?_⟩
 rw [Array.getD_eq_getD_getElem?]
 cases e:q[i]? with
 | none=>
  have:=h.2 N
  rw [Array.getD_eq_getD_getElem?,Array.getElem?_eq_none (Nat.le_of_eq h.1)] at this
  exact this
 | some x=>
  have hx:x∈q:=Array.mem_of_getElem? e
  have hx':x∈p:=hp.mem_iff.mp hx
  obtain⟨j,hj,rfl⟩:=Array.mem_iff_getElem.mp hx'
  have:=h.2 j
  rw [Array.getD_eq_getD_getElem?,Array.getElem?_eq_getElem hj] at this
  exact this
theorem In.rev{p:Array Nat}(h:In N p)(i j:Nat):In N (kas_rev p i j):=h.of_perm (mirror_perm _ _ _ _)
theorem asc_spec(T:Told r N cmp s){G:Nat->Shared->Prop}{p:Array Nat}(hp:In N p):∀ (f n:Nat),1<=n->Asc r p n->(∀ m,n<=m->m<=n+f->Asc r p m->(m<n+f->Kk r p m<Kk r p (m - 1))->G m s)->(kas_asc p f n).kasWp cmp G s
 | 0,n,_,ha,hG=>hG n (Nat.le_refl _) (Nat.le_refl _) ha (fun h=>absurd h (by omega))
 | f+1,n,h1,ha,hG=>by
  refine T _ _ (hp.2 _) (hp.2 _) _ ?_
  by_cases c:Kk r p n<Kk r p (n - 1)
  ·have c':r (p.getD n 0)<r (p.getD (n - 1) 0):=c
   rw [decide_eq_true c']
   exact hG n (Nat.le_refl _) (by omega) ha fun _=>c
  ·have c':¬ r (p.getD n 0)<r (p.getD (n - 1) 0):=c
   rw [decide_eq_false c']
   refine asc_spec T hp f (n+1) (by omega) (fun i j hij hj=>?_) fun m a b c2 d=>hG m (by omega) (by omega) c2 fun e=>d (by omega)
   by_cases e:j=n
   ·subst e
    by_cases e2:i=j
    ·subst e2;exact Int.le_refl _
    ·have:=ha i (j - 1) (by omega) (by omega)
     omega
   ·exact ha i j hij (by omega)
def Tail(r:Nat->Int)(p:Array Nat)(n q:Nat):Prop:=q<n/\∀ k,n - (q+1)<=k->k<n->Kk r p k=Kk r p (n - 1)
theorem rev_tail{p:Array Nat}{n q:Nat}(hn:n<=p.size)(h:Tail r p n q)(k:Nat):Kk r (kas_rev p (n - (q+1)) n) k=Kk r p k:=by
 rw [Kk_rev hn]
 split
 ·rw [h.2 _ (by have:=h.1;omega) (by omega),h.2 k (by omega) (by omega)]
 ·rfl
theorem Des.same{p p':Array Nat}{n:Nat}(h:Des r p n)(e:∀ k,Kk r p' k=Kk r p k):Des r p' n:=fun i j a b=>by rw [e,e];exact h i j a b
theorem desc_spec(T:Told r N cmp s){G:Array Nat×Nat×Nat->Shared->Prop}:∀ (f:Nat) (p:Array Nat) (n q:Nat),In N p->n+f<=N->Des r p n->Tail r p n q →
  (∀ p' n' q',p'.Perm p->n<=n'->n'<=n+f->Des r p' n'->Tail r p' n' q'->G (p',n',q') s)->(kas_desc f p n q).kasWp cmp G s
 | 0,p,n,q,_,_,hd,ht,hG=>hG p n q (.refl _) (Nat.le_refl _) (Nat.le_refl _) hd ht
 | f+1,p,n,q,hp,hN,hd,ht,hG=>by
  refine T _ _ (hp.2 _) (hp.2 _) _ ?_
  by_cases c:Kk r p n<Kk r p (n - 1)
  ·have c':r (p.getD n 0)<r (p.getD (n - 1) 0):=c
   rw [decide_eq_true c']
   have hq:=ht.1
   have grow:∀ p':Array Nat,p'.Perm p->(∀ k,Kk r p' k=Kk r p k)->(kas_desc f p' (n+1) 0).kasWp cmp G s:=fun p' hpp e=>by
    refine desc_spec T f p' (n+1) 0 (hp.of_perm hpp) (by omega) (fun i j hij hj=>?_) ⟨by omega,fun k h1 h2=>by have e9:k=n:=(by omega);rw [e9];rfl⟩ fun p2 n2 q2 a b c2 d e2=>hG p2 n2 q2 (a.trans hpp) (by omega) (by omega) d e2
    rw [e,e]
    by_cases e3:j=n
    ·subst e3
     by_cases e4:i=j
     ·subst e4;exact Int.le_refl _
     ·have:=hd i (j - 1) (by omega) (by omega)
      omega
    ·exact hd i j hij (by omega)
   show KasT.kasWp cmp (if true=true then (if q > 0 then kas_desc f (kas_rev p (n - (q+1)) n) (n+1) 0 else kas_desc f p (n+1) 0) else _) G s
   rw [if_pos rfl]
   split
   ·exact grow _ (mirror_perm _ _ _ _) (rev_tail (by rw [hp.1];omega) ht)
   ·exact grow p (.refl _) fun _=>rfl
  ·have c':¬ r (p.getD n 0)<r (p.getD (n - 1) 0):=c
   rw [decide_eq_false c']
   show KasT.kasWp cmp (if false=true then _ else KasT.ask (p.getD (n - 1) 0) (p.getD n 0) fun d=>if d=true then .ret (p,n,q) else kas_desc f p (n+1) (q+1)) G s
   rw [if_neg (by simp)]
   refine T _ _ (hp.2 _) (hp.2 _) _ ?_
   by_cases d:Kk r p (n - 1)<Kk r p n
   ·have d':r (p.getD (n - 1) 0)<r (p.getD n 0):=d
    rw [decide_eq_true d']
    exact hG p n q (.refl _) (Nat.le_refl _) (by omega) hd ht
   ·have d':¬ r (p.getD (n - 1) 0)<r (p.getD n 0):=d
    rw [decide_eq_false d']
    have hq:=ht.1
    have eq:Kk r p n=Kk r p (n - 1):=by omega
    refine desc_spec T f p (n+1) (q+1) hp (by omega) (fun i j hij hj=>?_) ⟨by omega,fun k h1 h2=>?_⟩ fun p2 n2 q2 a b c2 d2 e2=>hG p2 n2 q2 a (by omega) (by omega) d2 e2
    ·by_cases e3:j=n
     ·subst e3
      by_cases e4:i=j
      ·subst e4;exact Int.le_refl _
      ·have:=hd i (j - 1) (by omega) (by omega)
       omega
     ·exact hd i j hij (by omega)
    ·show Kk r p k=Kk r p n
     by_cases e3:k=n
     ·rw [e3]
     ·rw [eq];exact ht.2 k (by omega) (by omega)
def Cnt(r:Nat->Int)(p:Array Nat)(nrem:Nat)(G:Nat×Array Nat->Shared->Prop)(s:Shared):Prop:=∀ n p',p'.Perm p->1<=n->n<=nrem->Asc r p' n->G (n,p') s
theorem tail3_spec(T:Told r N cmp s){G:Nat×Array Nat->Shared->Prop}{p:Array Nat}{n:Nat}(hp:In N p)(h1:1<=n)(hn:n<=N)(hd:Des r p n)(hG:Cnt r p N G s):(kas_tail3 n N p).kasWp cmp G s:=by
 unfold kas_tail3
 rw [KasT.kasWp_bind]
 refine asc_spec T (hp.rev 0 n) (N - n) n h1 (fun i j hij hj=>?_) fun m a b c _=>hG m _ (mirror_perm _ _ _ _) (by omega) (by omega) c
 rw [Kk_rev (by rw [hp.1];exact hn),Kk_rev (by rw [hp.1];exact hn),if_pos (by omega),if_pos (by omega)]
 exact hd _ _ (by omega) (by omega)
theorem Cnt.perm{p q:Array Nat}{G:Nat×Array Nat->Shared->Prop}(h:Cnt r p N G s)(hp:q.Perm p):Cnt r q N G s:=fun n p' a b c d=>h n p' (a.trans hp) b c d
theorem descPart_spec(T:Told r N cmp s){G:Nat×Array Nat->Shared->Prop}{p:Array Nat}{n:Nat}(hp:In N p)(hn:n+1<=N)(h1:1<=n)(hd:Des r p (n+1))(hG:Cnt r p N G s):(kas_descPart n N p).kasWp cmp G s:=by
 unfold kas_descPart
 rw [KasT.kasWp_bind]
 refine desc_spec T _ p (n+1) 0 hp (by omega) hd ⟨by omega,fun k a b=>by have e9:k=n:=(by omega);rw [e9];rfl⟩ fun p' n' q' a b c d e=>?_
 dsimp only
 have hp':=hp.of_perm a
 split
 ·exact tail3_spec T (hp'.rev _ _) (by omega) (by omega) (d.same (rev_tail (by rw [hp'.1];omega) e)) (hG.perm ((mirror_perm _ _ _ _).trans a))
 ·exact tail3_spec T hp' (by omega) (by omega) d (hG.perm a)
theorem count_spec(T:Told r N cmp s){G:Nat×Array Nat->Shared->Prop}{p:Array Nat}(hp:In N p)(hN:1<=N)(hG:Cnt r p N G s):(kas_count N p).kasWp cmp G s:=by
 unfold kas_count
 rw [KasT.kasWp_bind]
 refine asc_spec T hp (N - 1) 1 (Nat.le_refl _) (fun i j a b=>by have e9:i=j:=(by omega);rw [e9];exact Int.le_refl _) fun n h1 h2 ha hb=>?_
 by_cases e:n=N
 ·subst e
  rw [if_pos (by simp)]
  exact hG n p (.refl _) h1 (Nat.le_refl _) ha
 ·rw [if_neg (by simp [e])]
  have hlt:=hb (by omega)
  split
  ·refine T _ _ (hp.2 _) (hp.2 _) _ ?_
   by_cases c:Kk r p 0<Kk r p (n - 1)
   ·have c':r (p.getD 0 0)<r (p.getD (n - 1) 0):=c
    rw [decide_eq_true c']
    exact hG n p (.refl _) h1 (by omega) ha
   ·have c':¬ r (p.getD 0 0)<r (p.getD (n - 1) 0):=c
    rw [decide_eq_false c']
    have alike:∀ k,k<n->Kk r p k=Kk r p (n - 1):=fun k hk=>by
     have a1:=ha 0 k (by omega) hk
     have a2:=ha k (n - 1) (by omega) (by omega)
     omega
    have same:∀ k,Kk r (kas_rev p 0 n) k=Kk r p k:=fun k=>by
     rw [Kk_rev (by rw [hp.1];omega)]
     split
     ·rw [alike _ (by omega),alike k (by omega)]
     ·rfl
    refine descPart_spec T (hp.rev 0 n) (by omega) h1 (Des.same (p:=p) (fun i j hij hj=>?_) same) (hG.perm (mirror_perm _ _ _ _))
    by_cases e3:j=n
    ·subst e3
     by_cases e4:i=j
     ·subst e4;exact Int.le_refl _
     ·rw [alike i (by omega)];omega
    ·rw [alike i (by omega),alike j (by omega)];exact Int.le_refl _
  ·have:n=1:=by omega
   subst this
   refine descPart_spec T hp (by omega) (Nat.le_refl _) (fun i j hij hj=>?_) hG
   have hj':j=0\/j=1:=by omega
   have hi':i=0\/i=1:=by omega
   rcases hj' with rfl | rfl<;>rcases hi' with rfl | rfl
   ·exact Int.le_refl _
   ·omega
   ·have:Kk r p 1<Kk r p 0:=hlt
    omega
   ·exact Int.le_refl _
theorem place_spec(T:Told r N cmp s){G:Nat->Shared->Prop}{p:Array Nat}{k:Nat}(hp:In N p)(hs:Asc r p k):∀ (f l e:Nat),e<=k->e<=l+f->l<=e->(∀ i,i<l->Kk r p i<=Kk r p k)->(∀ i,e<=i->i<k->Kk r p k<Kk r p i) →
  (∀ l,l<=k->(∀ i,i<l->Kk r p i<=Kk r p k)->(∀ i,l<=i->i<k->Kk r p k<Kk r p i)->G l s)->(kas_place p k f l e).kasWp cmp G s
 | 0,l,e,h1,h2,h3,h4,h5,hG=>by
  have:l=e:=by omega
  subst this
  exact hG l h1 h4 h5
 | f+1,l,e,h1,h2,h3,h4,h5,hG=>by
  unfold kas_place
  split
  ·have:l=e:=by omega
   subst this
   exact hG l h1 h4 h5
  ·refine T _ _ (hp.2 _) (hp.2 _) _ ?_
   by_cases c:Kk r p k<Kk r p ((l+e) / 2)
   ·have c':r (p.getD k 0)<r (p.getD ((l+e) / 2) 0):=c
    rw [decide_eq_true c']
    refine place_spec T hp hs f l ((l+e) / 2) (by omega) (by omega) (by omega) h4 (fun i a b=>?_) hG
    have:=hs ((l+e) / 2) i a b
    omega
   ·have c':¬ r (p.getD k 0)<r (p.getD ((l+e) / 2) 0):=c
    rw [decide_eq_false c']
    refine place_spec T hp hs f ((l+e) / 2+1) e h1 (by omega) (by omega) (fun i a=>?_) h5 hG
    have:=hs i ((l+e) / 2) (by omega) (by omega)
    omega
theorem bubble_asc{p:Array Nat}{k l:Nat}(hk:k<p.size)(hs:Asc r p k)(hl:l<=k)(h1:∀ i,i<l->Kk r p i<=Kk r p k)(h2:∀ i,l<=i->i<k->Kk r p k<Kk r p i):Asc r (bubble p k (k - l)) (k+1):=fun i j hij hj=>by
 rw [Kk_bubble hk (by omega),Kk_bubble hk (by omega)]
 have e:k - (k - l)=l:=by omega
 rw [e]
 by_cases i1:i=l
 ·rw [if_pos i1]
  by_cases j1:j=l
  ·rw [if_pos j1];exact Int.le_refl _
  ·rw [if_neg j1,if_pos (by omega)]
   have:=h2 (j - 1) (by omega) (by omega);omega
 ·rw [if_neg i1]
  by_cases i2:l<i/\i<=k
  ·rw [if_pos i2,if_neg (by omega),if_pos (by omega)]
   exact hs _ _ (by omega) (by omega)
  ·rw [if_neg i2]
   by_cases j1:j=l
   ·rw [if_pos j1];exact h1 i (by omega)
   ·rw [if_neg j1]
    by_cases j2:l<j/\j<=k
    ·rw [if_pos j2];exact hs _ _ (by omega) (by omega)
    ·rw [if_neg j2];exact hs _ _ (by omega) (by omega)
theorem bin_spec(T:Told r N cmp s){G:Array Nat->Shared->Prop}:∀ (f:Nat) (p:Array Nat) (k:Nat),In N p->k+f=N->Asc r p k->(∀ p',p'.Perm p->Asc r p' N->G p' s)->(kas_bin f p k).kasWp cmp G s
 | 0,p,k,hp,hk,hs,hG=>hG p (.refl _) (by have e9:k=N:=(by omega);rw [<-e9];exact hs)
 | f+1,p,k,hp,hk,hs,hG=>by
  unfold kas_bin
  rw [KasT.kasWp_bind]
  refine place_spec T hp hs k 0 k (Nat.le_refl _) (by omega) (by omega) (fun i h=>absurd h (by omega)) (fun i h h'=>absurd h' (by omega)) fun l h1 h2 h3=>?_
  refine bin_spec T f _ (k+1) (hp.of_perm (bubble_perm _ _ _)) (by omega) (bubble_asc (by rw [hp.1];omega) hs h1 h2 h3) fun p' a b=>hG p' (a.trans (bubble_perm _ _ _)) b
theorem sort_spec(T:Told r N cmp s){G:Array Nat->Shared->Prop}(hN:1<=N)(hG:∀ p:Array Nat,p.Perm (List.toArray (List.range N))->Asc r p N->G p s):(kas_sort N).kasWp cmp G s:=by
 have h0:In N (List.toArray (List.range N)):=⟨by simp,fun i=>by
  rw [Array.getD_eq_getD_getElem?]
  cases e:(List.toArray (List.range N))[i]? with
  | none=>exact hN
  | some x=>
   have:=Array.mem_of_getElem? e
   simpa using this⟩
 unfold kas_sort
 rw [KasT.kasWp_bind]
 refine count_spec T h0 hN fun n p a b c d=>?_
 dsimp only
 have hp:=h0.of_perm a
 split
 ·have e:max n 1=n:=by omega
  rw [e]
  exact bin_spec T _ p n hp (by omega) d fun p' x y=>hG p' (x.trans a) y
 ·have:n=N:=by omega
  subst this
  exact hG p a d
end
end Rm
namespace Rm
open PySem PySem.W PyProof.Rows
section
variable {prog:Program} {w:World} {A:Around} {E:Value->Shared->Prop} {s:Shared}
def outOf(vs:List Value)(p:Array Nat):Array Value:=List.toArray (p.toList.map fun i=>vs.getD i Value.none)
theorem small_out:∀ vs:List Value,vs.length<2->(vs.toArray.zip vs.toArray).map (·.2)=outOf vs (List.toArray (List.range vs.length))
 | [],_=>by simp [outOf]
 | [v],_=>by simp [outOf]
 | _::_::_,h=>by simp at h;omega
def Kp(a:Addr)(h h':Heap):Prop:=∀ b o,b≠a->h.get? b=some o->h'.get? b=some o
theorem list_sort_rank {a:Addr} {vs:List Value} {n:Nat} {P:PySem.Fin->Shared->Prop} {r:Nat->Int} (κ:SortKind) (ho:s.heap.get? a=some (seqObj "list" vs.toArray n)) (h64:vs.length<64)
  (hk:2<=vs.length->∀ (h':Heap) (Q:SortKind->Shared->Prop),Kp a s.heap h'->Q κ { s with heap:=h' }->wpAny (model prog w) A (keyKind' vs.toArray) Q E { s with heap:=h' })
  (hc:∀ i j,i<vs.length->j<vs.length->∀ (h':Heap) (C:Bool->Shared->Prop),Kp a s.heap h'->C (decide (r i<r j)) { s with heap:=h' }->wpAny (model prog w) A (keyLt' κ (vs.getD i Value.none) (vs.getD j Value.none)) C (fun _ _=>False) { s with heap:=h' })
  (h:∀ p:Array Nat,p.Perm (List.toArray (List.range vs.length))->Asc r p vs.length->P (.done (.ret .none)) { s with heap:=sortedHeap s.heap a vs (outOf vs p) }) :
  wpAny (model prog w) A (Builtin.«list.sort» ⟨[.ref a],[]⟩) P E s:=by
 rw [list_sort_plain]
 have ha:a<s.heap.objs.size:=Heap.lt_size ho
 refine wpAny_bind (listItems_at ho rfl ?_)
 refine wpAny_bind (listUpdate_at ho rfl ?_)
 obtain⟨e1,ho1⟩:∃ e1,(s.heap.update a (Obj.mapSeq fun _=>#[])).get? a=some (seqObj "list" #[] e1):=⟨_,get?_update_seq ho (fun _=>#[])⟩
 refine wpAny_bind (seqEpoch_at ho1 rfl ?_)
 refine wpAny_bind (wpAny_newTuple ?_)
 refine wpAny_bind (wpAny_newList ?_)
 refine wpAny_holding ?_
 have ho6:(((s.heap.update a (Obj.mapSeq fun _=>#[])).push (seqObj "tuple" vs.toArray 0)).push (seqObj "list" #[] 0)).get? a=some (seqObj "list" #[] e1):=by
  rw [Heap.get?_push_ne _ _ _ (by rw [size_push',Heap.size_update];exact Nat.ne_of_lt (Nat.lt_succ_of_lt ha)),Heap.get?_push_ne _ _ _ (by rw [Heap.size_update];exact Nat.ne_of_lt ha)]
  exact ho1
 have kp6:Kp a s.heap (((s.heap.update a (Obj.mapSeq fun _=>#[])).push (seqObj "tuple" vs.toArray 0)).push (seqObj "list" #[] 0)):=fun b o hb e=>
  Heap.get?_push_of_some _ (Heap.get?_push_of_some _ (by rw [Heap.get?_update_ne _ _ _ _ hb];exact e))
 show wpAny (model prog w) A _ P E { s with heap:=((s.heap.update a (Obj.mapSeq fun _=>#[])).push (seqObj "tuple" vs.toArray 0)).push (seqObj "list" #[] 0) }
 dsimp only
 have hsz:vs.toArray.size=vs.length:=by simp
 by_cases h2:vs.toArray.size<2
 ·rw [if_pos h2,if_pos h2]
  refine wpAny_bind (wpAny_pure ?_)
  rw [StateT.run_pure]
  refine wpAny_bind (wpAny_pure ?_)
  dsimp only
  refine wpAny_bind (seqEpoch_at ho6 rfl ?_)
  refine wpAny_bind (listUpdate_at ho6 rfl ?_ (hsz2:=by rw [Array.size_map];show (pairsOf vs).size<=_;rw [pairsOf_size,sizeLine_eq];omega))
  simp only [bne_self_eq_false,Bool.false_eq_true,if_false]
  have e:(arrOf (SortSt.mk' general' (vs.toArray.zip vs.toArray) #[] 7 none)).map (·.2)=outOf vs (List.toArray (List.range vs.length)):=by
   exact small_out vs (by omega)
  rw [e]
  refine wpAny_pure (h (List.toArray (List.range vs.length)) (Array.Perm.refl _) ?_)
  intro i j hij hj
  have e9:i=j:=by omega
  rw [e9];exact Int.le_refl _
 ·rw [if_neg h2,if_neg h2]
  refine wpAny_bind (hk (by omega) _ _ kp6 ?_)
  have T:Told r vs.length (kas_ask prog w A κ vs) { s with heap:=((s.heap.update a (Obj.mapSeq fun _=>#[])).push (seqObj "tuple" vs.toArray 0)).push (seqObj "list" #[] 0) }:=fun i j hi hj C hC=>hc i j hi hj _ C kp6 hC
  refine wpAny_bind (wpAny_mono (kat_run (ks:=vs) (vs:=vs) (Q:=fun st' s'=>s'={ s with heap:=((s.heap.update a (Obj.mapSeq fun _=>#[])).push (seqObj "tuple" vs.toArray 0)).push (seqObj "list" #[] 0) }/\∃ p:Array Nat,p.size=vs.length/\arrOf st'=p.map (kas_item (vs.toArray.zip vs.toArray))/\failedOf st'=none/\p.Perm (List.toArray (List.range vs.length))/\Asc r p vs.length)
   (G:=fun p s'=>s'={ s with heap:=((s.heap.update a (Obj.mapSeq fun _=>#[])).push (seqObj "tuple" vs.toArray 0)).push (seqObj "list" #[] 0) }/\p.Perm (List.toArray (List.range vs.length))/\Asc r p vs.length)
   rfl (by omega) h64 (fun p' st' s' a1 a2 a3 a4=>⟨a4.1,p',a1,a2,a3,a4.2⟩) (sort_spec T (by omega) fun p hp ha=>⟨rfl,hp,ha⟩)) ?_ fun _ _ e=>e)
  rintro⟨⟨⟩,st'⟩ s' ⟨rfl,p,hps,har,hf,hp,hs⟩
  dsimp only
  have hout:=kat_snds (ks:=vs) (vs:=vs) rfl har
  rw [hout]
  refine wpAny_bind (seqEpoch_at ho6 rfl ?_)
  refine wpAny_bind (listUpdate_at ho6 rfl ?_ (hsz2:=by rw [List.size_toArray,List.length_map,Array.length_toList,hps,sizeLine_eq];omega))
  rw [hf]
  simp only [bne_self_eq_false,Bool.false_eq_true,if_false]
  exact wpAny_pure (h p hp hs)
theorem sorted_rank_of {l:Addr} {vs:List Value} {Q:Value->Shared->Prop} {r:Nat->Int} (κ:SortKind) (hcol:∀ (A:Around) (E:Value->Shared->Prop) (Q:List Value->Shared->Prop),Q vs { s with heap:=(s.heap.push (seqObj "list" #[] 0)).update s.heap.objs.size (Obj.mapSeq (·++vs.toArray)) }->wpAny (model prog w) A (collect (.ref l)) Q E s) (h64:vs.length<64)
  (hk:2<=vs.length->∀ (h':Heap) (Q:SortKind->Shared->Prop),(∀ b o,s.heap.get? b=some o->h'.get? b=some o)->Q κ { s with heap:=h' }->wpAny (model prog w) A.in1.in1 (keyKind' vs.toArray) Q (fun _ _=>False) { s with heap:=h' })
  (hc:∀ i j,i<vs.length->j<vs.length->∀ (h':Heap) (C:Bool->Shared->Prop),(∀ b o,s.heap.get? b=some o->h'.get? b=some o)->C (decide (r i<r j)) { s with heap:=h' }->wpAny (model prog w) A.in1.in1 (keyLt' κ (vs.getD i Value.none) (vs.getD j Value.none)) C (fun _ _=>False) { s with heap:=h' })
  (h:∀ p:Array Nat,p.Perm (List.toArray (List.range vs.length))->Asc r p vs.length->Q (.ref (s.heap.objs.size+1)) { s with heap:=sortedAll s.heap vs (outOf vs p) }) :
  wpAny (model prog w) A (call (.builtin "sorted") [.ref l]) Q E s:=by
 refine Calls.call_function_entry kind_sorted plain_sorted entry_sorted (args_sorted1 _) ?_
 unfold Builtin.«sorted»
 refine wpAny_bind (m:=checkCount "sorted" 1 1 _) (wpAny_pure ?_)
 refine wpAny_bind (hcol _ _ _ ?_)
 refine wpAny_bind (wpAny_newList ?_)
 have hsz:((s.heap.push (seqObj "list" #[] 0)).update s.heap.objs.size (Obj.mapSeq (·++vs.toArray))).objs.size=s.heap.objs.size+1:=by
  rw [Heap.size_update,size_push']
 have hoL:(((s.heap.push (seqObj "list" #[] 0)).update s.heap.objs.size (Obj.mapSeq (·++vs.toArray))).push (seqObj "list" vs.toArray 0)).get? (s.heap.objs.size+1)=some (seqObj "list" vs.toArray 0):=by
  rw [<-hsz];exact Heap.get?_push_size _ rfl
 have keep:∀ b o,s.heap.get? b=some o->(((s.heap.push (seqObj "list" #[] 0)).update s.heap.objs.size (Obj.mapSeq (·++vs.toArray))).push (seqObj "list" vs.toArray 0)).get? b=some o:=fun b o q=>by
  have hlt:b<s.heap.objs.size:=Heap.lt_size q
  rw [Heap.get?_push_ne _ _ _ (by rw [hsz];exact Nat.ne_of_lt (Nat.lt_succ_of_lt hlt)),Heap.get?_update_ne _ _ _ _ (Nat.ne_of_lt hlt),Heap.get?_push_ne _ _ _ (Nat.ne_of_lt hlt)]
  exact q
 have keep2:∀ h',Kp (s.heap.objs.size+1) (((s.heap.push (seqObj "list" #[] 0)).update s.heap.objs.size (Obj.mapSeq (·++vs.toArray))).push (seqObj "list" vs.toArray 0)) h'->∀ b o,s.heap.get? b=some o->h'.get? b=some o:=fun h' k b o q=>
  k b o (Nat.ne_of_lt (Nat.lt_succ_of_lt (Heap.lt_size q))) (keep b o q)
 show wpAny _ _ _ _ _ { s with heap:=((s.heap.push (seqObj "list" #[] 0)).update s.heap.objs.size (Obj.mapSeq (·++vs.toArray))).push (seqObj "list" vs.toArray 0) }
 rw [hsz]
 refine wpAny_bind (wpAny_holding (wpAny_call_entry slot_list_sort ⟨_,hoL,rfl⟩ entry_list_sort (list_sort_rank (r:=r) κ hoL h64 (fun h2 h' Q k q=>?_) (fun i j hi hj h' C k q=>?_) fun p hp ha=>⟨_,rfl,?_⟩) (args_list_sort _)))
 ·exact wpAny_mono (hk h2 h' Q (keep2 h' k) q) (fun _ _ z=>z) fun _ _ z=>z.elim
 ·exact hc i j hi hj h' C (keep2 h' k) q
 ·exact wpAny_pure ⟨_,rfl,h p hp ha⟩
theorem sorted_rank{l:Addr}{vs:List Value}{Q:Value->Shared->Prop}{r:Nat->Int}(κ:SortKind)(hl:s.heap.IsList l vs.toArray)(h64:vs.length<64)
  (hk:2<=vs.length->∀ (h':Heap) (Q:SortKind->Shared->Prop),(∀ b o,s.heap.get? b=some o->h'.get? b=some o)->Q κ { s with heap:=h' }->wpAny (model prog w) A.in1.in1 (keyKind' vs.toArray) Q (fun _ _=>False) { s with heap:=h' })
  (hc:∀ i j,i<vs.length->j<vs.length->∀ (h':Heap) (C:Bool->Shared->Prop),(∀ b o,s.heap.get? b=some o->h'.get? b=some o)->C (decide (r i<r j)) { s with heap:=h' }->wpAny (model prog w) A.in1.in1 (keyLt' κ (vs.getD i Value.none) (vs.getD j Value.none)) C (fun _ _=>False) { s with heap:=h' })
  (h:∀ p:Array Nat,p.Perm (List.toArray (List.range vs.length))->Asc r p vs.length->Q (.ref (s.heap.objs.size+1)) { s with heap:=sortedAll s.heap vs (outOf vs p) }) :
  wpAny (model prog w) A (call (.builtin "sorted") [.ref l]) Q E s:=
 sorted_rank_of κ (fun A E Q q=>collect_list hl q (by rw [sizeLine_eq];omega)) h64 hk hc h
end
end Rm
namespace Rm
open PySem PySem.W PyProof.Rows L2
theorem vals_refs:∀ {as:List Addr} {us:List Value},Vals (as.map V.ref) us->us=as.map Value.ref
 | [],_,.nil=>rfl
 | a::as,u::us,.cons r t=>by
  have e:u=Value.ref a:=r
  rw [e,vals_refs t];rfl
theorem refs_vals(as:List Addr):Vals (as.map V.ref) (as.map Value.ref):=by
 induction as with
 | nil=>exact .nil
 | cons a as ih=>exact .cons rfl ih
def Two (h:Heap) (a:Addr) (p:Bw):Prop:=∃ o t u n,h.get? a=some o/\o.cls=.type "tuple"/\o.data=.seq #[.int p.1 t,.int p.2 u] n
theorem two_of{X:Cx}{pins:List (Addr×Obj)}{σ:L2.St}{H:Hp}{s:Shared}(I:Inv X pins σ H s){a:Addr}{p:Bw}(h:tupAt H a p):Two s.heap a p:=by
 obtain⟨_,its,v,o,e,c,n,d⟩:=I.hok a _ h
 obtain⟨u,w,rfl,⟨t,rfl⟩,t',rfl⟩:=Vals.two v
 exact⟨o,t,t',n,e,c,by rw [d]⟩
theorem Two.kept{h h':Heap}{a:Addr}{p:Bw}(x:Two h a p)(k:∀ b o,h.get? b=some o->h'.get? b=some o):Two h' a p:=by
 obtain⟨o,t,u,n,e,c,d⟩:=x
 exact⟨o,t,u,n,k _ _ e,c,d⟩
theorem two_tups{h:Heap}:∀ {as:List Addr} {ps:List Bw},Paired (Two h) as ps->∃ fs,KatTups h (as.map Value.ref) fs/\fs.length=as.length/\∀ v∈fs,∃ n t,v=Value.int n t
 | _,_,.nil=>⟨[],KatTups.nil,rfl,(fun v hv=>nomatch hv)⟩
 | _,_,.cons r t=>by
  obtain⟨o,t1,u1,n,e,c,d⟩:=r
  obtain⟨fs,h1,h2,h3⟩:=two_tups t
  exact⟨.int _ t1::fs,KatTups.cons e c d rfl h1,by simp [h2],fun v hv=>by
   rcases List.mem_cons.mp hv with rfl | hv
   ·exact⟨_,_,rfl⟩
   ·exact h3 v hv⟩
def rankB(p:Bw):Int:=p.1 * 1000+p.2
def kB:SortKind:=tuples' (Value.type "int" != Value.type "tuple")
theorem two_lt{prog:Program}{w:World}{A:Around}{s:Shared}{a b:Addr}{p q:Bw}{C:Bool->Shared->Prop}(ha:Two s.heap a p)(hb:Two s.heap b q)(hp:0<=p.2/\p.2<1000)(hq:0<=q.2/\q.2<1000)
  (h:C (decide (rankB p<rankB q)) s):wpAny (model prog w) A (keyLt' kB (.ref a) (.ref b)) C (fun _ _=>False) s:=by
 obtain⟨oa,t,u,n,ea,ca,da⟩:=ha
 obtain⟨ob,t',u',n',eb,cb,db⟩:=hb
 refine kat_lt ea da eb db ?_
 show KatLex prog w A _ _ C [(Value.int p.1 t,Value.int q.1 t'),(Value.int p.2 u,Value.int q.2 u')] 0 s
 refine kat_cons (wpAny_eqBool_int (kat_go (fun e=>?_) (fun e=>?_)))
 ·have e1:p.1=q.1:=by simpa using e
  refine kat_yes (kat_cons (wpAny_eqBool_int (kat_go (fun e=>?_) (fun e=>?_))))
  ·have e2:p.2=q.2:=by simpa using e
   refine kat_yes (kat_nil ?_)
   have z:decide (rankB p<rankB q)=false:=decide_eq_false (by unfold rankB;omega)
   rw [z] at h
   exact h
  ·have e2:¬ p.2=q.2:=by simpa using e
   refine kat_no ?_
   have z:decide (rankB p<rankB q)=decide (p.2<q.2):=by
    by_cases y:p.2<q.2
    ·rw [decide_eq_true y,decide_eq_true (by unfold rankB;omega)]
    ·rw [decide_eq_false y,decide_eq_false (by unfold rankB;omega)]
   rw [z] at h
   have b0:((Value.type "int" != Value.type "tuple")&&((0+1:Nat)==0))=false:=by decide
   rw [b0]
   exact kat_one _ _ (lt_int h)
 ·have e1:¬ p.1=q.1:=by simpa using e
  refine kat_no ?_
  have z:decide (rankB p<rankB q)=decide (p.1<q.1):=by
   by_cases y:p.1<q.1
   ·rw [decide_eq_true y,decide_eq_true (by unfold rankB;omega)]
   ·rw [decide_eq_false y,decide_eq_false (by unfold rankB;omega)]
  rw [z] at h
  have b0:((Value.type "int" != Value.type "tuple")&&((0:Nat)==0))=true:=by decide
  rw [b0]
  exact oneLt_int h
def pick{α:Type}(d:α)(xs:List α)(p:Array Nat):List α:=p.toList.map fun i=>xs.getD i d
theorem pick_perm{α:Type}(d:α)(xs:List α){p:Array Nat}(hp:p.Perm (List.toArray (List.range xs.length))):(pick d xs p).Perm xs:=by
 have h1:p.toList.Perm (List.range xs.length):=by simpa using Array.perm_iff_toList_perm.mp hp
 have h2:=h1.map fun i=>xs.getD i d
 have e:(List.range xs.length).map (fun i=>xs.getD i d)=xs:=by
  apply List.ext_getElem
  ·simp
  ·intro i h1 h2
   simp at h1
   simp [h1]
 rw [e] at h2
 exact h2
theorem pick_paired{α β:Type}{R:α->β->Prop}(d:α)(e:β){xs:List α}{ys:List β}(h:Paired R xs ys){p:Array Nat}(hp:∀ i∈p.toList,i<xs.length):Paired R (pick d xs p) (pick e ys p):=by
 unfold pick
 revert hp
 induction p.toList with
 | nil=>intro _;exact .nil
 | cons i r ih=>
  intro hp
  refine .cons ?_ (ih fun j hj=>hp j (List.mem_cons_of_mem _ hj))
  have hi:=hp i List.mem_cons_self
  have hx:xs[i]? = some xs[i]:=List.getElem?_eq_getElem hi
  obtain⟨y,hy,hr⟩:=paired_get h hx
  have e1:xs.getD i d=xs[i]:=by simp [List.getD,hx]
  have e2:ys.getD i e=y:=by simp [List.getD,hy]
  show R (xs.getD i d) (ys.getD i e)
  rw [e1,e2];exact hr
theorem pick_asc{r:Nat->Int}{n:Nat}{p:Array Nat}(hn:p.size=n)(ha:Asc r p n){α:Type}(d:α)(xs:List α)(f:α->Int)(hf:∀ i,r i=f (xs.getD i d)):(pick d xs p).Pairwise fun a b=>f a<=f b:=by
 rw [List.pairwise_iff_getElem]
 intro i j hi hj hij
 have hi':i<p.size:=by simpa [pick] using hi
 have hj':j<p.size:=by simpa [pick] using hj
 have h1:=ha i j (Nat.le_of_lt hij) (by omega)
 unfold Kk at h1
 rw [hf,hf] at h1
 simp only [Array.getD_eq_getD_getElem?,Array.getElem?_eq_getElem hi',Array.getElem?_eq_getElem hj',Option.getD_some] at h1
 simpa [pick] using h1
theorem msZ_perm{ps:List Bw}{bw:List (Nat×Nat)}(h:ps.Perm (msZ bw)):∃ ot,ps=msZ ot/\ot.Perm bw:=by
 refine⟨ps.map fun p=>(p.1.toNat,p.2.toNat),?_,?_⟩
 ·unfold msZ
  rw [List.map_map]
  have:∀ p∈ps,((fun p:Nat×Nat=>((p.1:Int),(p.2:Int)))∘fun p:Bw=>(p.1.toNat,p.2.toNat)) p=p:=fun p hp=>by
   obtain⟨x,_,rfl⟩:=List.mem_map.mp (h.mem_iff.mp hp)
   simp
  rw [List.map_congr_left this]
  simp
 ·have h2:=h.map fun p:Bw=>(p.1.toNat,p.2.toNat)
  unfold msZ at h2
  rw [List.map_map] at h2
  have:∀ x∈bw,((fun p:Bw=>(p.1.toNat,p.2.toNat))∘fun p:Nat×Nat=>((p.1:Int),(p.2:Int))) x=x:=fun x _=>by simp
  rw [List.map_congr_left this] at h2
  simpa using h2
def leB(p q:Bw):Prop:=p.1<q.1\/p.1=q.1/\p.2<=q.2
def rSortB(K:PySem.W.Frag):List V->Hp->VK->Prop:=fun xs H Q=>∃ (l:Addr) (as:List Addr) (ps:List Bw),xs=[.ref l]/\SqL K H l (as.map V.ref)/\Paired (tupAt H) as ps/\ps.length<64/\(∀ p∈ps,0<=p.2/\p.2<1000) ∧
 ∀ l' as' ps',H l'=none->Paired (tupAt H) as' ps'->ps'.Perm ps->ps'.Pairwise leB->Q (.ref l') (upd H l' (.lst (as'.map V.ref)))
theorem call_sorted_bows {X:Cx}:CallR X (.builtin "sorted") (rSortB X.K):=by
 intro pins s σ H xs us Q I rr h
 obtain⟨l,as,ps,rfl,hq,hP,h64,hb,q⟩:=h
 obtain⟨u,rfl,rx⟩:=vals1 rr
 cases rx
 obtain⟨its,rv,pl,hz⟩:=I.list hq
 have e:=vals_refs rv
 subst e
 have hlen:as.length=ps.length:=Paired.length hP
 have two:Paired (Two s.heap) as ps:=paired_imp hP fun a p z=>two_of I z
 have at_:∀ i,i<as.length->∃ a p,(as.map Value.ref).getD i Value.none=.ref a/\ps.getD i (0,0)=p/\Two s.heap a p/\0<=p.2/\p.2<1000:=fun i hi=>by
  have hx:as[i]? = some as[i]:=List.getElem?_eq_getElem hi
  obtain⟨p,hp,ht⟩:=paired_get two hx
  exact⟨as[i],p,by simp [List.getD,hi],by simp [List.getD,hp],ht,hb p (List.mem_of_getElem? hp)⟩
 refine sorted_rank (r:=fun i=>rankB (ps.getD i (0,0))) kB pl.isList (by rw [List.length_map];omega) (fun h2 h' Q' k q'=>?_) (fun i j hi hj h' C k q'=>?_) fun p hp ha=>?_
 ·obtain⟨fs,k1,k2,k3⟩:=two_tups (paired_imp two fun a p z=>z.kept k)
  refine kat_kind (T:=.type "int") k1 (by rw [List.length_map] at h2;omega) (fun v hv=>?_) rfl q'
  obtain⟨n,t,rfl⟩:=k3 v hv
  exact (show Looks _ _ (pure (Value.type "int")) (Value.type "int") from .now)
 ·rw [List.length_map] at hi hj
  obtain⟨a,p,e1,e2,t1,b1⟩:=at_ i hi
  obtain⟨c,p',e3,e4,t2,b2⟩:=at_ j hj
  rw [e1,e3]
  refine two_lt (t1.kept k) (t2.kept k) b1 b2 ?_
  rw [<-e2,<-e4]
  exact q'
 ·rw [List.length_map] at hp ha
  obtain⟨c,hc⟩:=sortedAll_at s.heap (as.map Value.ref) (outOf (as.map Value.ref) p)
  have hin:∀ i∈p.toList,i<as.length:=fun i hi=>by
   have h1:p.toList.Perm (List.range as.length):=by simpa using Array.perm_iff_toList_perm.mp hp
   simpa using h1.mem_iff.mp hi
  have eo:outOf (as.map Value.ref) p=List.toArray ((pick 0 as p).map Value.ref):=by
   unfold outOf pick
   rw [List.map_map]
   congr 1
   refine List.map_congr_left fun i hi=>?_
   have:=hin i hi
   simp [List.getD,this]
  have hps:(pick 0 as p).length<=sizeLine:=by
   have:=(pick_perm 0 as hp).length_eq
   rw [this]
   exact Nat.le_of_lt (small1000 (by omega))
  rw [eo] at hc
  have hp':p.Perm (List.toArray (List.range ps.length)):=by rw [<-hlen];exact hp
  refine⟨.ref (s.heap.objs.size+1),upd H (s.heap.objs.size+1) (.lst ((pick 0 as p).map V.ref)),I.laid (t':=s.toks) (fun b o e=>sortedAll_old e) (Nat.le_succ _) ?_,rfl,?_⟩
  ·exact (show ObjOk X.prog X.w _ _ _ (.lst _) from ⟨by rw [List.length_map];exact hps,(pick 0 as p).map Value.ref,c,refs_vals _,by rw [eo];exact hc⟩)
  ·have hasc:=pick_asc (n:=as.length) (by have:=hp.size_eq;simpa using this) ha (0,0) ps rankB fun i=>rfl
   have hmem:∀ x∈pick (0,0) ps p,0<=x.2/\x.2<1000:=fun x hx=>hb x ((pick_perm (0,0) ps hp').mem_iff.mp hx)
   refine q _ _ (pick (0,0) ps p) (I.hok.fresh (Nat.le_succ _)) (pick_paired 0 (0,0) hP hin) (pick_perm (0,0) ps hp') ?_
   refine List.Pairwise.imp_of_mem (fun {a b} ma mb hab=>?_) hasc
   have h1:=hmem a ma
   have h2:=hmem b mb
   unfold rankB at hab
   unfold leB
   omega
end Rm
namespace Rm
open PySem L2
theorem perm_of_sub{α:Type} [DecidableEq α]:∀ {l m:List α},l.Nodup->(∀ x∈l,x∈m)->m.length<=l.length->l.Perm m
 | [],m,_,_,h=>by
  have:m=[]:=List.eq_nil_of_length_eq_zero (by simpa using h)
  rw [this]
 | x::l,m,nd,hs,hl=>by
  obtain⟨n1,n2⟩:=List.nodup_cons.mp nd
  have hx:=hs x List.mem_cons_self
  have hp:m.Perm (x::m.erase x):=List.perm_cons_erase hx
  have hlen:=hp.length_eq
  simp only [List.length_cons] at hlen hl
  have ih:l.Perm (m.erase x):=perm_of_sub n2 (fun y hy=>by
   have hm:=hs y (List.mem_cons_of_mem _ hy)
   rcases List.mem_cons.mp (hp.mem_iff.mp hm) with e | e
   ·subst e;exact absurd hy n1
   ·exact e) (by omega)
  exact (ih.cons x).trans hp.symm
def intOf:PyData->Int
 | .int n=>n
 | _=>0
theorem wholeD_int:∀ {d:PyData},wholeD d=true->d=.int (intOf d)
 | .int n,_=>rfl
structure Pl (d:PyData) (n:Nat):Prop where
 lay:d.canLay0=true
 deep:d.depth<=n
mutual
def noL:PyData->Bool
 | .list _=>false
 | .tuple ds=>noLs ds
 | .dict _=>false
 | _=>true
def noLs:List PyData->Bool
 | []=>true
 | d::ds=>noL d&&noLs ds
end
mutual
theorem dat_upd{H:Hp}{l:Addr}{ys:List V}{o:HO}(hl:H l=some (.lst ys)):∀ {x:V} {d:PyData},Dat H x d->noL d=true->Dat (upd H l o) x d
 | _,_,.non,_=>.non
 | _,_,.bl b,_=>.bl b
 | _,_,.int i,_=>.int i
 | _,_,.str x,_=>.str x
 | _,_,.tup h r,n=>.tup (by rw [upd_ne (ne_of h hl (by intro q;cases q))];exact h) (datL_upd hl r n)
 | _,_,.lst h r,n=>nomatch n
theorem datL_upd{H:Hp}{l:Addr}{ys:List V}{o:HO}(hl:H l=some (.lst ys)):∀ {xs:List V} {ds:List PyData},DatL H xs ds->noLs ds=true->DatL (upd H l o) xs ds
 | _,_,.nil,_=>.nil
 | _,_,.cons h r,n=>by
  have n':(noL _&&noLs _)=true:=n
  rw [Bool.and_eq_true] at n'
  exact .cons (dat_upd hl h n'.1) (datL_upd hl r n'.2)
end
end Rm
namespace Rm
open PySem L2 PyProof.Rows
theorem mate_ex{bs:List Bool}(b:Bal bs){k:Nat}(h:bs[k]? = some true):∃ m,Mate bs k m:=by
 have go:∀ (f j:Nat) (deep:Int),Walk bs k j deep->bs.length - j<f->∃ m,Mate bs k m:=by
  intro f
  induction f with
  | zero=>intro j deep _ hf;omega
  | succ f ih=>
   intro j deep w hf
   by_cases hc:0<deep\/j=k
   ·have hj:=w.inside b hc
    exact ih (j+1) _ (w.step hc (List.getElem?_eq_getElem hj)) (by omega)
   ·obtain⟨m,_,hm⟩:=w.mate hc
    exact⟨m,hm⟩
 exact go _ k 0 (Walk.start h) (Nat.lt_succ_self _)
theorem mates_ex{bs:List Bool}(b:Bal bs):∀ k,k<=bs.length->∃ ms,Mates bs k ms
 | 0,_=>⟨[],Mates.nil bs⟩
 | k+1,h=>by
  obtain⟨ms,M⟩:=mates_ex b k (by omega)
  by_cases ho:bs[k]? = some true
  ·obtain⟨m,hm⟩:=mate_ex b ho
   exact⟨_,M.snoc hm⟩
  ·exact⟨ms,M.skip ho⟩
def Pr(bs:List Bool)(x y:Nat):Prop:=Mate bs x y\/Mate bs y x
theorem Pr.symm{bs:List Bool}{x y:Nat}(h:Pr bs x y):Pr bs y x:=h.elim .inr .inl
theorem Pr.uniq{bs:List Bool}{x y z:Nat}(h:Pr bs x y)(g:Pr bs x z):y=z:=by
 rcases h with h | h<;>rcases g with g | g
 ·exact h.uniq g
 ·have:=h.op;rw [g.cl] at this;cases this
 ·have:=g.op;rw [h.cl] at this;cases this
 ·exact h.uniqL g
theorem Pr.lt{bs:List Bool}{x y:Nat}(h:Pr bs x y):y<bs.length:=by
 rcases h with h | h
 ·exact h.ml
 ·exact Nat.lt_trans h.lt h.ml
theorem pr_ex{bs:List Bool}(b:Bal bs){x:Nat}(h:x<bs.length):∃ y,Pr bs x y:=by
 cases e:bs[x] with
 | true=>
  obtain⟨m,hm⟩:=mate_ex b (k:=x) (by rw [List.getElem?_eq_getElem h,e])
  exact⟨m,.inl hm⟩
 | false=>
  obtain⟨ms,M⟩:=mates_ex b bs.length (Nat.le_refl _)
  obtain⟨p,hp⟩:=M.closed b (q:=x) (by rw [List.getElem?_eq_getElem h,e])
  exact⟨p,.inr (M.mate _ hp).1⟩
open Classical in
noncomputable def mtF (bs:List Bool) (x:Nat):Nat:=if h:∃ y,Pr bs x y then h.choose else x
theorem mtF_of{bs:List Bool}{x y:Nat}(h:Pr bs x y):mtF bs x=y:=by
 unfold mtF
 have hx:∃ y,Pr bs x y:=⟨y,h⟩
 rw [dif_pos hx]
 exact hx.choose_spec.uniq h
theorem mtF_pr{bs:List Bool}(b:Bal bs){x:Nat}(h:x<bs.length):Pr bs x (mtF bs x):=by
 obtain⟨y,hy⟩:=pr_ex b h
 rw [mtF_of hy];exact hy
structure Prt (n:Nat) (L:Nat->Nat):Prop where
 lt:∀ x,x<n->L x<n
 inv:∀ x,x<n->L (L x)=x
theorem mtF_prt{bs:List Bool}(b:Bal bs):Prt bs.length (mtF bs):=
 ⟨fun x h=>(mtF_pr b h).lt,fun x h=>mtF_of (mtF_pr b h).symm⟩
def gv(g:List Int)(x:Nat):Int:=g.getD x 0
def relabC(g:List Int)(one two:Int):List Int:=g.map fun y=>if y=two then one else y
theorem gv_get{g:List Int}{x:Nat}(h:x<g.length):g[x]? = some (gv g x):=by
 unfold gv
 rw [List.getElem?_eq_getElem h,List.getD_eq_getElem?_getD,List.getElem?_eq_getElem h];rfl
theorem gv_relab{g:List Int}{one two:Int}{x:Nat}(h:x<g.length):gv (relabC g one two) x=if gv g x=two then one else gv g x:=by
 have e:(relabC g one two)[x]? = some (if gv g x=two then one else gv g x):=by
  unfold relabC
  rw [List.getElem?_map,gv_get h];rfl
 have h2:x<(relabC g one two).length:=by unfold relabC;rw [List.length_map];exact h
 rw [gv_get h2] at e
 exact Option.some.inj e
theorem relabC_same(g:List Int)(a:Int):relabC g a a=g:=by
 unfold relabC
 have:(fun y:Int=>if y=a then a else y)=id:=by funext y;by_cases h:y=a<;>simp [h]
 rw [this,List.map_id]
structure Lab (n:Nat) (L:Nat->Nat) (bw:List (Nat×Nat)) (g:List Int):Prop where
 len:g.length=n
 left:∀ x,x<n->gv g (L x)=gv g x
 inn:∀ p∈bw,p.1<n/\p.2<n
 bows:∀ p∈bw,gv g p.1=gv g p.2
 conn:∀ S:Nat->Prop,(∀ x,x<n->S x->S (L x))->(∀ p∈bw,(S p.1<->S p.2))->∀ x y,x<n->y<n->S x->gv g y=gv g x->S y
def lab0(n:Nat)(L:Nat->Nat):List Int:=(List.range n).map fun x=>((min x (L x):Nat):Int)
theorem gv_lab0{n:Nat}{L:Nat->Nat}{x:Nat}(h:x<n):gv (lab0 n L) x=((min x (L x):Nat):Int):=by
 have h2:x<(lab0 n L).length:=by simp [lab0,h]
 have e:=gv_get h2
 unfold lab0 at e
 rw [List.getElem?_map,List.getElem?_range h] at e
 exact (Option.some.inj e).symm
theorem Lab.start{n:Nat}{L:Nat->Nat}(P:Prt n L):Lab n L [] (lab0 n L):=by
 refine⟨by simp [lab0],fun x h=>?_,(fun p h=>nomatch h),(fun p h=>nomatch h),fun S hS _ x y hx hy sx e=>?_⟩
 ·rw [gv_lab0 h,gv_lab0 (P.lt x h),P.inv x h,Nat.min_comm]
 ·rw [gv_lab0 hx,gv_lab0 hy] at e
  have e':min y (L y)=min x (L x):=by omega
  have cases4:y=x\/y=L x\/L y=x\/L y=L x:=by omega
  rcases cases4 with h | h | h | h
  ·rw [h];exact sx
  ·rw [h];exact hS x hx sx
  ·have:y=L x:=by rw [<-h,P.inv y hy]
   rw [this];exact hS x hx sx
  ·have:y=x:=by rw [<-P.inv y hy,h,P.inv x hx]
   rw [this];exact sx
theorem Lab.add{n:Nat}{L:Nat->Nat}{bw:List (Nat×Nat)}{g:List Int}{a b:Nat}(h:Lab n L bw g)(P:Prt n L)(ha:a<n)(hb:b<n):Lab n L (bw++[(a,b)]) (relabC g (gv g a) (gv g b)):=by
 have hl:=h.len
 have gr:∀ x,x<n->gv (relabC g (gv g a) (gv g b)) x=if gv g x=gv g b then gv g a else gv g x:=fun x hx=>gv_relab (by omega)
 refine⟨by unfold relabC;rw [List.length_map];exact hl,fun x hx=>?_,fun p hp=>?_,fun p hp=>?_,fun S hS hB x y hx hy sx e=>?_⟩
 ·rw [gr x hx,gr _ (P.lt x hx),h.left x hx]
 ·rcases List.mem_append.mp hp with hp | hp
  ·exact h.inn p hp
  ·rw [List.mem_singleton] at hp;subst hp;exact⟨ha,hb⟩
 ·rcases List.mem_append.mp hp with hp | hp
  ·obtain⟨h1,h2⟩:=h.inn p hp
   rw [gr _ h1,gr _ h2,h.bows p hp]
  ·rw [List.mem_singleton] at hp;subst hp
   rw [gr _ ha,gr _ hb,if_pos rfl]
   by_cases e:gv g a=gv g b
   ·rw [if_pos e]
   ·rw [if_neg e]
 ·have hB':∀ p∈bw,(S p.1<->S p.2):=fun p hp=>hB p (List.mem_append_left _ hp)
  have hab:S a<->S b:=hB (a,b) (by simp)
  have cn:=fun x y hx hy=>h.conn S hS hB' x y hx hy
  rw [gr x hx,gr y hy] at e
  by_cases e1:gv g x=gv g b
  ·have sb:S b:=cn x b hx hb sx e1.symm
   have sa:S a:=hab.mpr sb
   by_cases e2:gv g y=gv g b
   ·exact cn b y hb hy sb e2
   ·rw [if_neg e2,if_pos e1] at e
    exact cn a y ha hy sa e
  ·rw [if_neg e1] at e
   by_cases e2:gv g y=gv g b
   ·rw [if_pos e2] at e
    have sa:S a:=cn x a hx ha sx e
    exact cn b y hb hy (hab.mp sa) e2
   ·rw [if_neg e2] at e
    exact cn x y hx hy sx e
def Cts(g:List Int)(k:Nat):Prop:=∃ ls:List Int,ls.Nodup/\(∀ x,x∈ls<->x∈g)/\ls.length=k
theorem nodup_len{α:Type} [DecidableEq α] {l m:List α} (h:l.Nodup) (k:m.Nodup) (e:∀ x,x∈l<->x∈m):l.length=m.length:=by
 have a:∀ {l m:List α},l.Nodup->(∀ x,x∈l->x∈m)->l.length<=m.length:=by
  intro l m hl hm
  refine Nat.le_of_not_lt fun h=>?_
  have:=(perm_of_sub hl hm (Nat.le_of_lt h)).length_eq
  omega
 exact Nat.le_antisymm (a h fun x hx=>(e x).mp hx) (a k fun x hx=>(e x).mpr hx)
theorem Cts.uniq{g:List Int}{j k:Nat}(h:Cts g j)(i:Cts g k):j=k:=by
 obtain⟨l,h1,h2,rfl⟩:=h
 obtain⟨m,i1,i2,rfl⟩:=i
 exact nodup_len h1 i1 fun x=>(h2 x).trans (i2 x).symm
theorem Cts.add{g:List Int}{k:Nat}{one two:Int}(h:Cts g k)(h1:one∈g)(h2:two∈g)(ne:one≠two):1<=k/\Cts (relabC g one two) (k - 1):=by
 obtain⟨ls,nd,e,rfl⟩:=h
 have m2:two∈ls:=(e two).mpr h2
 refine⟨List.length_pos_of_mem m2,ls.erase two,nd.erase two,fun x=>?_,List.length_erase_of_mem m2⟩
 rw [nd.mem_erase_iff,e]
 unfold relabC
 rw [List.mem_map]
 constructor
 ·rintro⟨n,hx⟩
  exact⟨x,hx,by rw [if_neg n]⟩
 ·rintro⟨y,hy,rfl⟩
  by_cases c:y=two
  ·rw [if_pos c];exact⟨ne,h1⟩
  ·rw [if_neg c];exact⟨c,hy⟩
theorem mem_gv{g:List Int}{x:Nat}(h:x<g.length):gv g x∈g:=List.mem_of_getElem? (gv_get h)
def stepC(s:List Bool×List Int)(p:Nat×Nat):List Bool×List Int:=(s.1++[decide (gv s.2 p.1=gv s.2 p.2)],relabC s.2 (gv s.2 p.1) (gv s.2 p.2))
def closC(g:List Int)(ms:List (Nat×Nat)):List Bool×List Int:=ms.foldl stepC ([],g)
theorem closC_snoc{g:List Int}{ms:List (Nat×Nat)}{p:Nat×Nat}:closC g (ms++[p])=stepC (closC g ms) p:=by simp [closC,List.foldl_append]
theorem closC_len{g:List Int}{ms:List (Nat×Nat)}:(closC g ms).1.length=ms.length:=by
 have go:∀ (ms:List (Nat×Nat)) (s:List Bool×List Int),(ms.foldl stepC s).1.length=s.1.length+ms.length:=by
  intro ms
  induction ms with
  | nil=>intro s;rfl
  | cons p ms ih=>intro s;rw [List.foldl_cons,ih];simp [stepC];omega
 have:=go ms ([],g)
 simpa [closC] using this
theorem closC_cnt{n:Nat}{L:Nat->Nat}{g:List Int}{k:Nat}(P:Prt n L)(h0:Lab n L [] g)(c0:Cts g k):∀ (ms:List (Nat×Nat)),(∀ p∈ms,p.1<n/\p.2<n) →
  Lab n L ms (closC g ms).2/\∃ j,Cts (closC g ms).2 j/\j+((closC g ms).1.countP (! ·))=k:=by
 intro ms
 have go:∀ ms:List (Nat×Nat),(∀ p∈ms.reverse,p.1<n/\p.2<n)->Lab n L ms.reverse (closC g ms.reverse).2/\∃ j,Cts (closC g ms.reverse).2 j/\j+((closC g ms.reverse).1.countP (! ·))=k:=by
  intro ms
  induction ms with
  | nil=>intro _;exact⟨h0,k,c0,rfl⟩
  | cons p ms ih=>
   intro hp
   rw [List.reverse_cons] at hp ⊢
   obtain⟨lb,j,cj,ej⟩:=ih fun q hq=>hp q (List.mem_append_left _ hq)
   obtain⟨p1,p2⟩:=hp p (by simp)
   rw [closC_snoc]
   refine⟨lb.add P p1 p2,?_⟩
   have hl:=lb.len
   generalize closC g ms.reverse=s at lb cj ej hl ⊢
   show ∃ j,Cts (relabC s.2 (gv s.2 p.1) (gv s.2 p.2)) j/\j+((s.1++[decide (gv s.2 p.1=gv s.2 p.2)]).countP (! ·))=k
   rw [List.countP_append]
   by_cases e:gv s.2 p.1=gv s.2 p.2
   ·rw [e,relabC_same]
    exact⟨j,cj,by simp;omega⟩
   ·obtain⟨h1,c1⟩:=cj.add (mem_gv (by omega)) (mem_gv (by omega)) e
    refine⟨j - 1,c1,?_⟩
    rw [decide_eq_false e]
    simp;omega
 intro h
 have:=go ms.reverse
 rw [List.reverse_reverse] at this
 exact this h
theorem lab0_cnt{bs:List Bool}(b:Bal bs):∃ k,2 * k=bs.length/\Cts (lab0 bs.length (mtF bs)) k:=by
 obtain⟨ms,M⟩:=mates_ex b bs.length (Nat.le_refl _)
 refine⟨ms.length,M.count b,ms.map fun p=>(p.1:Int),?_,fun x=>?_,by simp⟩
 ·rw [List.Nodup,List.pairwise_map]
  exact M.inc.imp fun h e=>by omega
 ·unfold lab0
  rw [List.mem_map,List.mem_map]
  constructor
  ·rintro⟨p,hp,rfl⟩
   have hm:=(M.mate p hp).1
   have hlt:=hm.lt
   refine⟨p.1,List.mem_range.mpr (Nat.lt_trans hm.lt hm.ml),?_⟩
   rw [mtF_of (.inl hm),Nat.min_eq_left (by omega)]
  ·rintro⟨y,hy,rfl⟩
   have hy:=List.mem_range.mp hy
   rcases mtF_pr b hy with hm | hm
   ·obtain⟨m,hmm⟩:=M.all y hy hm.op
    refine⟨(y,m),hmm,?_⟩
    have:=hm.lt
    show (y:Int)=_
    rw [Nat.min_eq_left (by omega)]
   ·have h1:=Nat.lt_trans hm.lt hm.ml
    obtain⟨m,hmm⟩:=M.all _ h1 hm.op
    refine⟨(mtF bs y,m),hmm,?_⟩
    have:=hm.lt
    show ((mtF bs y:Nat):Int)=_
    rw [Nat.min_eq_right (by omega)]
structure Rnds (n:Nat) (L R:Nat->Nat) (rs:List (List Nat)):Prop where
 inn:∀ r∈rs,∀ x∈r,x<n/\L x∈r/\R x∈r
 one:∀ f:Nat->Int,(∀ x,x<n->f (L x)=f x/\f (R x)=f x)->∀ r∈rs,∀ x∈r,∀ y∈r,f x=f y
 apart:rs.Pairwise fun r s=>∀ x∈r,x∉s
 ne:∀ r∈rs,r≠[]
theorem rounds_cnt{n:Nat}{L R:Nat->Nat}{rs:List (List Nat)}{ms:List (Nat×Nat)}{g:List Int}(X:Rnds n L R rs)(cover:∀ x,x<n->∃ r∈rs,x∈r)(h:Lab n L ms g)(hR:∀ p∈ms,R p.1=p.2/\R p.2=p.1)(hc:∀ x,x<n->∃ p∈ms,x=p.1\/x=p.2):Cts g rs.length:=by
 have gR:∀ x,x<n->gv g (R x)=gv g x:=fun x hx=>by
  obtain⟨p,hp,e⟩:=hc x hx
  obtain⟨r1,r2⟩:=hR p hp
  rcases e with rfl | rfl
  ·rw [r1];exact (h.bows p hp).symm
  ·rw [r2];exact h.bows p hp
 have key:∀ r∈rs,∀ x∈r,∀ y,y<n->gv g y=gv g x->y∈r:=fun r hr x hx y hy e=>
  h.conn (·∈r) (fun z _ hz=>(X.inn r hr z hz).2.1) (fun p hp=>⟨fun hz=>by have:=(X.inn r hr _ hz).2.2;rw [(hR p hp).1] at this;exact this,fun hz=>by have:=(X.inn r hr _ hz).2.2;rw [(hR p hp).2] at this;exact this⟩) x y (X.inn r hr x hx).1 hy hx e
 have one:=X.one (gv g) fun x hx=>⟨h.left x hx,gR x hx⟩
 refine⟨rs.map fun r=>gv g (r.headD 0),?_,fun x=>?_,by simp⟩
 ·rw [List.Nodup,List.pairwise_map]
  refine (List.Pairwise.and_mem.mp X.apart).imp (fun {r s} h=>?_)
  obtain⟨hr,hs,ap⟩:=h
  intro e
  have h1:r.headD 0∈r:=by cases r with | nil=>exact absurd rfl (X.ne _ hr) | cons a t=>simp
  have h2:s.headD 0∈s:=by cases s with | nil=>exact absurd rfl (X.ne _ hs) | cons a t=>simp
  exact ap _ (key r hr _ h1 _ (X.inn s hs _ h2).1 e.symm) h2
 ·rw [List.mem_map]
  constructor
  ·rintro⟨r,hr,rfl⟩
   have h1:r.headD 0∈r:=by cases r with | nil=>exact absurd rfl (X.ne _ hr) | cons a t=>simp
   exact mem_gv (by rw [h.len];exact (X.inn r hr _ h1).1)
  ·intro hx
   obtain⟨i,hi,rfl⟩:=List.getElem_of_mem hx
   have hin:i<n:=by rw [<-h.len];exact hi
   obtain⟨r,hr,hir⟩:=cover i hin
   have h1:r.headD 0∈r:=by cases r with | nil=>exact absurd rfl (X.ne _ hr) | cons a t=>simp
   refine⟨r,hr,?_⟩
   rw [one r hr _ h1 i hir]
   have:=gv_get hi
   rw [List.getElem?_eq_getElem hi] at this
   exact (Option.some.inj this).symm
end Rm
namespace L2
open PySem PySem.Spec PyProof.Rows
def CtD(dO:Option Addr)(e:Addr)(h:Heap):Prop:=∃ o vs,h.get? e=some o/\(o.dict=dO/\o.data=.fields vs)/\vs[2]? = some .none
abbrev Ct0 (e:Addr) (h:Heap):Prop:=CtD none e h
structure Pres {α:Type} (I:Heap->Prop) (t:Sem α):Prop where
 out:∀ (M:Model) (Γ:PySem.Ctx) (P:α->Pos->Shared->Prop) (E:Value->Pos->Shared->Prop) (p:Pos) (s:Shared),I s.heap->Sem.wp M Γ t P E p s->Sem.wp M Γ t (fun a p' s'=>P a p' s'/\I s'.heap) E p s
section
variable {α β:Type} {I:Heap->Prop}
theorem Pres.pure(a:α):Pres I (Pure.pure a:Sem α):=⟨fun M Γ P E p s i h=>⟨h,i⟩⟩
theorem Pres.un(w:String):Pres I (unsupported w:Sem α):=⟨fun M Γ P E p s i h=>False.elim h⟩
theorem Pres.load(a:Addr):Pres I (load a):=⟨fun M Γ P E p s i ⟨o,e,h⟩=>⟨o,e,h,i⟩⟩
theorem Pres.stack:Pres I stack:=⟨fun M Γ P E p s i h=>⟨h,i⟩⟩
theorem Pres.update{a:Addr}{f:Obj->Obj}(k:∀ h,I h->I (h.update a f)):Pres I (update a f):=⟨fun M Γ P E p s i ⟨e,h⟩=>⟨e,h,k _ i⟩⟩
theorem Pres.alloc{o:Obj}(k:∀ h,I h->I (h.push o)):Pres I (alloc o):=⟨fun M Γ P E p s i h=>⟨h,k _ i⟩⟩
theorem Pres.bind{m:Sem α}{f:α->Sem β}(hm:Pres I m)(hf:∀ a,Pres I (f a)):Pres I (m>>=f):=⟨fun M Γ P E p s i h=>by
 have h':Sem.wp M Γ (m.bind f) P E p s:=h
 show Sem.wp M Γ (m.bind f) _ E p s
 rw [Sem.wp_bind] at h' ⊢
 exact Sem.wp_mono M Γ m (fun a p' s' ⟨h1,i1⟩=>(hf a).out M Γ P E p' s' i1 h1) (fun _ _ _ z=>z) _ _ (hm.out M Γ _ E p s i h')⟩
theorem Pres.ite{c:Prop} [Decidable c] {a b:Sem α} (ha:Pres I a) (hb:Pres I b):Pres I (if c then a else b):=by split<;>assumption
theorem Pres.newObjT{T:String}{vs:List Value}(k:∀ h o,I h->I (h.push o)):Pres I (newFields T vs):=by
 unfold newFields newObj
 exact Pres.ite (.bind (.un _) fun _=>.bind (.alloc fun h i=>k h _ i) fun a=>.pure _) (.bind (.alloc fun h i=>k h _ i) fun a=>.pure _)
end
theorem ct_push{dO:Option Addr}{e:Addr}{h:Heap}{o:Obj}(c:CtD dO e h):CtD dO e (h.push o):=by
 obtain⟨ob,vs,e1,e2,e3⟩:=c
 exact⟨ob,vs,Heap.get?_push_of_some _ e1,e2,e3⟩
theorem ct_upd{dO:Option Addr}{e a:Addr}{h:Heap}{f:Obj->Obj}(k:∀ o vs,o.dict=dO/\o.data=.fields vs->vs[2]? = some Value.none->∃ ws,((f o).dict=dO/\(f o).data=.fields ws)/\ws[2]? = some Value.none)(c:CtD dO e h):CtD dO e (h.update a f):=by
 obtain⟨ob,vs,e1,e2,e3⟩:=c
 by_cases z:a=e
 ·subst z
  obtain⟨ws,e4,e5⟩:=k ob vs e2 e3
  exact⟨_,ws,Heap.get?_update_self f e1 (by clear e5;revert e4;generalize f ob=z;intro ⟨_,e4⟩;obtain⟨c,d,da,sl⟩:=z;cases e4;rfl),e4,e5⟩
 ·exact⟨ob,vs,Heap.get?_update_of_ne f z e1,e2,e3⟩
theorem Pres.setField{dO:Option Addr}{e:Addr}{v x:Value}{i:Nat}(hi:i≠2):Pres (CtD dO e) (PySem.setField v i x):=by
 unfold PySem.setField
 split
 ·unfold updateField
  refine .bind (.load _) fun o=>?_
  split
  ·refine .ite (.update fun h c=>ct_upd (fun o vs e1 e2=>?_) c) (.un _)
   obtain⟨c,d,da,sl⟩:=o
   obtain⟨e0,e1⟩:=e1
   cases e1
   refine⟨_,⟨e0,rfl⟩,?_⟩
   rw [Array.getElem?_setIfInBounds,if_neg hi];exact e2
  ·exact .un _
 ·exact .un _
theorem Pres.field{I:Heap->Prop}{v:Value}{i:Nat}:Pres I (PySem.field v i):=by
 unfold PySem.field fieldsOf
 refine .bind ?_ fun vs=>?_
 ·split
  ·refine .bind (.load _) fun o=>?_
   split
   ·exact .pure _
   ·exact .un _
  ·exact .un _
 ·split
  ·exact .pure _
  ·exact .un _
theorem Pres.ready{dO:Option Addr}{e:Addr}:∀ l:List Env,Pres (CtD dO e) (readyFrames l)
 | []=>.pure _
 | env::outer=>by
  unfold readyFrames
  split
  ·refine .bind (.load _) fun o=>.ite (.pure _) (.bind ?_ fun b=>.bind ?_ fun c=>.bind (.update fun h c=>ct_upd (fun o vs e1 e2=>⟨vs,e1,e2⟩) c) fun _=>Pres.ready outer)
   ·unfold behindIsImport
    exact .ite (.pure _) (.ite (.pure _) (.bind .field fun _=>.pure _))
   ·unfold keptBack
    split
    ·refine .ite (.pure _) (.bind ?_ fun _=>.pure _)
     unfold underTheClaimsCaller
     exact .bind .stack fun _=>.pure _
    ·exact .pure _
  ·exact .un _
theorem Pres.note{dO:Option Addr}{e:Addr}{v:Value}{env:Env}:Pres (CtD dO e) (noteFrame v env):=by
 have jp:∀ (f:Addr) (head:Value),Pres (CtD dO e) (do
   let a <-PySem.frameOf env
   let b <-entryPlaceOf f (head != Value.none)
   let c <-EntryCells.newEntry head a Value.none (rawInt ↑f) Value.none b
   PySem.setField v 1 c):=fun f head=>by
  refine .bind ?_ fun a=>.bind ?_ fun b=>.bind ?_ fun c=>.setField (by decide)
  ·unfold PySem.frameOf frameEnvs
   refine .bind (.bind .stack fun _=>.pure _) fun l=>.bind ?_ fun o=>?_
   ·unfold frameObject
    split
    ·exact .pure _
    ·exact .bind (Pres.ready _) fun _=>.pure _
   ·split
    ·exact .pure _
    ·exact .un _
  ·unfold entryPlaceOf
   refine .bind .stack fun acts=>?_
   split
   ·exact .pure _
   ·exact .pure _
  ·unfold EntryCells.newEntry
   exact .newObjT fun h o c=>ct_push c
 unfold noteFrame
 split
 ·refine .bind .field fun head=>?_
  refine .ite (.bind .field fun x=>.ite (.pure _) (.bind (.setField (by decide)) fun _=>jp _ _)) (jp _ _)
 ·exact .un _
theorem Pres.flight{dO:Option Addr}{e:Addr}{v:Value}{fr:Option Addr}:Pres (CtD dO e) (setFlight v fr):=by
 unfold setFlight
 exact .bind .field fun tb=>.ite (.setField (by decide)) (.pure _)
theorem Pres.leave{dO:Option Addr}{e:Addr}{v:Value}{env:Env}:Pres (CtD dO e) (leaving env v):=by
 unfold leaving
 exact .bind .note fun _=>.flight
theorem Pres.any{α:Type}{I:Heap->Prop}{t:Sem α}(p:Pres I t){M:Model}{A:Around}{Q:α->Shared->Prop}{E:Value->Shared->Prop}{s:Shared}(i:I s.heap)(h:wpAny M A t Q E s):wpAny M A t (fun a s'=>Q a s'/\I s'.heap) E s:=
 fun Γ q hΓ=>p.out M Γ _ _ q s i (h Γ q hΓ)
theorem wpAny_pres{α:Type}{I:Heap->Prop}{t:Sem α}(p:Pres I t){M:Model}{A:Around}{Q:α->Shared->Prop}{E:Value->Shared->Prop}{s:Shared}(i:I s.heap)(h:wpAny M A t (fun a s'=>I s'.heap->Q a s') E s):wpAny M A t Q E s:=
 wpAny_mono (p.any i h) (fun _ _ ⟨q,c⟩=>q c) fun _ _ z=>z
theorem made_ct{h h':Heap}{e:Addr}{cls:Value}{vs:List Value}(M:h.MadeExcOf h' e cls vs):Ct0 e h':=by
 obtain⟨t,e1,_⟩:=M.there
 exact⟨_,_,e1,⟨rfl,rfl⟩,rfl⟩
theorem ObjOk.ex{P:Program}{w:World}{H:Hp}{h:Heap}{a:Addr}{o:HO}(x:ObjOk P w H h a o):∃ ob,h.get? a=some ob:=by
 cases o with
 | lst xs=>obtain⟨_,_,_,_,e⟩:=x;exact⟨_,e⟩
 | tup xs=>obtain⟨_,_,_,ob,e,_⟩:=x;exact⟨_,e⟩
 | dK kvs=>obtain⟨_,_,_,_,o,_,_,e,_⟩:=x;exact⟨_,e⟩
 | dT kvs=>obtain⟨_,_,_,_,o,_,_,e,_⟩:=x;exact⟨_,e⟩
 | set S n=>obtain⟨o,_,_,_,e,_⟩:=x;exact⟨_,e⟩
 | ins C dx fs=>obtain⟨_,_,_,e,_⟩:=x;exact⟨_,e⟩
 | own y=>exact x
 | xd fs=>obtain⟨_,⟨_,_,_,e,_⟩,_⟩:=x;exact⟨_,e⟩
 | rng lo hi=>obtain⟨_,_,_,e⟩:=x;exact⟨_,e⟩
 | frz ob u=>obtain⟨e,_⟩:=x;exact⟨_,e⟩
 | tbl ps=>exact⟨_,show h.get? a=some _ from x⟩
 | met f y=>exact⟨_,show h.get? a=some _ from x⟩
 | ext φ=>obtain⟨_,e,_⟩:=x;exact e
structure Cov (B h:Heap) (H':Hp) (outer:List Env):Prop where
 old:∀ b o,h.get? b=some o->b∉frs outer->∃ o',B.get? b=some o'
 trk:∀ b u,H' b=some u->∃ o',B.get? b=some o'
def CXx(P:Program)(w:World):CXT:=fun outer H s E e s'=>∃ (a C t:Addr) (H':Hp) (B:Heap) (dO:Option Addr),e=.ref a/\s'.os=s.os/\AllBare s'.gens/\Un (frs outer) [] H H' s.heap s'.heap/\HOk P w H' s'.heap ∧
 B.FlyingW outer a (.ref C) (.ref t) s'.heap/\Cov B s.heap H' outer/\CtD dO a s'.heap/\E (.ref C) dO H'
theorem passX{P:Program}{w:World}{X:Cx}:Passes (CXx P w) X E0:=fun _ _ _ _ _ _ _ ⟨_,_,_,_,_,_,_,_,_,_,_,_,_,_,h⟩=>h.elim
theorem funs_rebase {h base B : Heap} : ∀ {l : List Env}, h.FunFrames base l → (∀ b ∈ frs l, B.get? b = none) → h.FunFrames B l
 | [], _, _ => trivial
 | env :: r, ⟨hk, ⟨L, o, hf, hn, ho, hd⟩, hr⟩, hb => ⟨hk, ⟨L, o, hf, hb L (by unfold frs; rw [List.filterMap_cons, hf]; exact List.mem_cons_self), ho, hd⟩,
   funs_rebase hr fun b m => hb b (by unfold frs; rw [List.filterMap_cons, hf]; exact List.mem_cons_of_mem _ m)⟩
def Rais(X:Cx)(E:XK):Prop:=∀ (pins:List (Addr×Obj)) (σ:St) (H:Hp) (s:Shared) (h':Heap) (e C:Addr) (vs:List Value),Inv X pins σ H s->s.heap.MadeExcOf h' e (.ref C) vs->E (.ref C) none H->X.xe (.ref e) { s with heap:=h' }
theorem rais_def{P:Program}{w:World}{K:PySem.W.Frag}{mg:Str->Option Value}{base:Heap}{N:List Str}{qual:Str}{scope:Scope}{f:Addr}{cd:Value}{A:Around}{outer:List Env}{s0:Shared}{H0:Hp}{E:XK}:
  Rais (cxOf (CXx P w) P w K mg base N qual scope f cd A outer s0 H0 E) E:=by
 intro pins σ H s h' e C vs I M hE
 generalize hX:cxOf (CXx P w) P w K mg base N qual scope f cd A outer s0 H0 E=X at I ⊢
 have hst:X.stack=X.env::X.outer:=by rw [<-hX];rfl
 have hfr:X.env.frame=some X.env.locals:=by rw [<-hX];rfl
 have hxe:X.xe=fun e s'=>wpAny (model X.prog X.w) X.A (leaving X.env e) (fun _ s''=>CXx X.prog X.w X.outer X.H₀ X.s₀ E e s'') (fun e' s''=>CXx X.prog X.w X.outer X.H₀ X.s₀ E e' s'') s':=by rw [<-hX];rfl
 have hex:X.ex=[]:=by rw [<-hX];rfl
 have hfs:frs X.stack=X.env.locals::X.fs:=by rw [hst];unfold frs;rw [List.filterMap_cons,hfr];rfl
 clear hX
 rw [hxe]
 have hB:∀ b o,s.heap.get? b=some o->b∉frs X.stack->(PySem.W.hideAll s.heap (frs X.stack)).get? b=some o:=fun b o e1 e2=>PySem.W.hideAll_get _ e1 e2
 refine wpAny_pres (Pres.leave (dO:=none) (e:=e)) (made_ct M) ?_
 refine wpAny_leaves_madeW (base:=PySem.W.hideAll s.heap (frs X.stack)) (h:=s.heap) (outer:=X.outer) (L:=X.env.locals) (by rw [I.ok.frames,hst]) hfr (fun b o e1=>PySem.W.of_hideAll _ e1)
  (funs_rebase (hst▸I.stack) fun b m=>PySem.W.hideAll_none _ (hst▸m)) M fun h2 t fl _ _ up ct=>?_
 have lt0:∀ b o,X.s₀.heap.get? b=some o->b≠X.env.locals:=fun b o e1=>Nat.ne_of_lt (Nat.lt_of_lt_of_le (Heap.lt_size e1) I.ok.above)
 have out:∀ b o,X.s₀.heap.get? b=some o->b∉X.fs->b∉frs X.stack:=fun b o e1 e2 z=>by
  rw [hfs] at z
  exact (List.mem_cons.mp z).elim (lt0 b o e1) e2
 have ne:∀ b,b∉X.ex:=fun b z=>by rw [hex] at z;cases z
 have stay:=fl.1
 have slot:∀ b o,s.heap.get? b=some o->b∈X.fs->∃ sl,h2.get? b=some { o with slots:=sl }:=fun b o e1 m=>by
  obtain⟨_,o',e2,nf⟩:=I.funs.mem m
  rw [e1] at e2
  cases e2
  obtain⟨sl,q⟩:=up b o (M.keeps b o e1) nf
  exact⟨sl,q⟩
 have u:=I.base
 rw [hex] at u
 refine⟨e,C,t,H,_,none,rfl,I.os,I.bare,⟨fun b o e1 e2 e3 e4=>?_,fun b o e1 e2 e3 e4=>?_,u.free,fun b o e1 e2=>?_,u.tups,u.frzs,u.tbls⟩,fun b o e1=>?_,fl,⟨fun b o e1 e2=>?_,fun b o e1=>?_⟩,ct,hE⟩
 ·exact stay b o (hB b o (u.keep b o e1 e2 e3 e4) (out b o e1 e3))
 ·obtain⟨sl,q⟩:=u.slot b o e1 e2 e3 e4
  obtain⟨sl',q'⟩:=slot b _ q e3
  exact⟨sl',q'⟩
 ·obtain⟨o',q⟩:=u.there b o e1 e2
  by_cases m:b∈X.fs
  ·obtain⟨sl,q'⟩:=slot b o' q m
   exact⟨_,q'⟩
  ·exact⟨o',stay b o' (hB b o' q (out b o e1 m))⟩
 ·refine (I.hok b o e1).stay (fun c v hc q=>stay c v (hB c v q fun z=>?_)) (fun _ q=>q) fun _ _ q=>q
  have n:=I.stkFree c z
  rcases hc with r | r
  ·rw [r,e1] at n;cases n
  ·rw [r] at n;cases n
 ·obtain⟨o',q⟩:=u.there b o e1 (by simp)
  exact⟨o',hB b o' q (out b o e1 e2)⟩
 ·obtain⟨ob,q⟩:=(I.hok b o e1).ex
  refine⟨ob,hB b ob q fun z=>?_⟩
  have n:=I.stkFree b z
  rw [e1] at n;cases n
theorem tail_has{h:Heap}{bmB:List Value}{v:Value}(hv:bmB.contains v=true):∀ {l:List Value},OwnTail h bmB l->l.contains v=true
 | _,.base=>hv
 | _,.own _ _ _ t=>by rw [List.contains_cons,tail_has hv t,Bool.or_true]
theorem ns_keeps{h h':Heap}(k:∀ b o,h.get? b=some o->h'.get? b=some o){N:Addr}{m:Str->Option Value}(x:h.Ns N m):h'.Ns N m:=by
 obtain⟨o,es,ep,ho,r⟩:=x
 exact⟨o,es,ep,k _ _ ho,r⟩
theorem tail_keeps{h h':Heap}(k:∀ b o,h.get? b=some o->h'.get? b=some o){bmB:List Value}:∀ {l:List Value},OwnTail h bmB l->OwnTail h' bmB l
 | _,.base=>.base
 | _,.own a b c t=>.own (k _ _ a) (ns_keeps k b) c (tail_keeps k t)
def tRaise(C:Addr)(E:XK)(t:TA):TS:=fun _ σ H=>t σ H fun vs H1=>vs.length<=sizeLine/\E (.ref C) none H1
section
variable {X:Cx}
theorem ps_raise{x:Str}{C:Addr}{bmB:List Value}{B newId initId:String}{E:XK}{e:Expr}{es:List Expr}{t:TA}{np cpos pos:Pos}(R:Rais X E)(O:OwnCls x C bmB newId X.mg X.base)(F:ExcBaseFacts B newId initId bmB)(hc:X.calm=true)(hg:Gl X x)(ha:PA X (e::es) t)
  (hdb:(x==("__debug__":Str))=false:=by decide) (he:starEach (e::es) X.env=(false,eval e X.env)::starEach es X.env:=by rfl) (hpl:(backTo cpos (starEach es X.env)).any (·.1)=false:=by rfl) :
  PS X (.Raise (some (.Call (.Name x np) (e::es) [] cpos)) none pos) (tRaise C E t):=by
 intro pins s σ H D I h
 obtain⟨bm,N,nm,q,bs,hdct,sn,sub,ab,col,dd,k0,k1,k2,k3,k5,mN,hC,hN,hi,ot⟩:=O.obj
 have eq:backTo cpos (starEach (e::es) X.env)=(false,eval e X.env)::backTo cpos (starEach es X.env):=by rw [he];rfl
 have hb:(backTo cpos (starEach (e::es) X.env)).any (·.1)=false:=by rw [eq,List.any_cons,hpl];rfl
 refine wpAny_Raise_call_subT (nm:=nm) (q:=q) (N:=N) (bs:=bs) (hdct:=hdct) (sn:=sn) (sub:=sub) (ab:=ab) (col:=col) (dd:=dd) (k0:=k0) (k1:=k1) (k2:=k2) (k3:=k3) (k5:=k5) F (tail_has F.hasBase ot) (I.ok.hd hc) hb hi (ld_glob I hg O.bound ⟨rfl,?_⟩ hdb)
 have pl:=ha cpos pins s σ H _ I h
 rw [eq] at pl ⊢
 refine Calls.evalArgs_plain (thn pl fun us s1 ⟨vs,H1,I1,r,z,q1⟩=>⟨rfl,by rw [<-r.length];exact z,I1.bk _ _ hC,ns_keeps I1.bk hN,tail_keeps I1.bk ot,fun h' a M=>R pins σ H1 s1 h' a C us I1 M q1⟩)
end
def excD(dO:Option Addr)(C a:Addr):HO:=.ext fun h=>(∃ o,h.get? a=some o/\o.cls=.ref C)/\CtD dO a h
def Cx.exc(X:Cx)(a:Addr):Cx:={ X with A:=X.A.mark (some (.ref a)),calm:=false,xe:=fun _ _=>False }
section
variable {X:Cx} {pins:List (Addr×Obj)} {σ:St} {H H':Hp} {s s':Shared}
theorem Cx.Ok.exc(ok:X.Ok)(a:Addr):(X.exc a).Ok:=
 ⟨ok.mod,ok.kind,ok.glob,ok.blt,ok.above,ok.inj,ok.has,ok.cab,(fun z=>nomatch z),ok.frames,ok.stk,ok.exf,ok.bs,ok.bsz,ok.noex,ok.exfs,ok.funs,ok.frf⟩
theorem Inv.exc(I:Inv X pins σ H s)(a:Addr):Inv (X.exc a) pins σ H s:=⟨I.ok.exc a,I.os,I.bare,I.base,I.loc,I.cell,I.free,I.freeC,I.pin,I.hok,I.len⟩
theorem Inv.unexc{a:Addr}(I:Inv (X.exc a) pins σ H s)(ok:X.Ok):Inv X pins σ H s:=⟨ok,I.os,I.bare,I.base,I.loc,I.cell,I.free,I.freeC,I.pin,I.hok,I.len⟩
theorem UpToSlots.trans{h1 h2 h3:Heap}(a:h1.UpToSlots h2)(b:h2.UpToSlots h3):h1.UpToSlots h3:=fun c o e nf=>by
 obtain⟨sl,e1⟩:=a c o e nf
 obtain⟨sl',e2⟩:=b c _ e1 nf
 exact⟨sl',e2⟩
theorem Inv.land{dO:Option Addr}{B:Heap}{a C t:Addr}{h4:Heap}{E:XK}(I:Inv X pins σ H s)(os:s'.os=s.os)(bare:AllBare s'.gens)(un:Un (frs X.stack) [] H H' s.heap s'.heap)(hok:HOk X.prog X.w H' s'.heap)(f1:B.FlyingW X.stack a (.ref C) (.ref t) s'.heap)
  (cov:Cov B s.heap H' X.stack) (f4:B.FlyingW X.stack a (.ref C) (.ref t) h4) (up:s'.heap.UpToSlots h4) (ct:CtD dO a h4):Inv X pins σ (upd H' a (excD dO C a)) { s' with heap:=h4 }:=by
 have Bn:B.get? a=none:=f1.2.1
 have ntr:∀ b u,H' b=some u->b≠a:=fun b u e z=>by
  obtain⟨o,q⟩:=cov.trk b u e
  rw [z,Bn] at q;cases q
 have na:∀ b o,s.heap.get? b=some o->b≠a:=fun b o e z=>by
  subst z
  by_cases m:b∈frs X.stack
  ·obtain⟨_,o1,e1,nf⟩:=f4.2.2.1.mem m
   obtain⟨oe,vs,_,_,_,e2,_,e3,_⟩:=f4.2.2.2
   rw [e1] at e2;cases e2
   exact nf vs e3
  ·obtain⟨o',q⟩:=cov.old b o e m
   rw [Bn] at q;cases q
 have fr:∀ b o,s'.heap.get? b=some o->b∈frs X.stack->∃ sl,h4.get? b=some { o with slots:=sl }:=fun b o e m=>by
  obtain⟨_,o1,e1,nf⟩:=f1.2.2.1.mem m
  rw [e] at e1;cases e1
  exact up b o e nf
 have same:∀ b o ob,B.get? b=some ob->s'.heap.get? b=some o->h4.get? b=some o:=fun b o ob e e1=>by
  have e2:=f1.1 b ob e
  rw [e1] at e2;cases e2
  exact f4.1 b o e
 refine I.call' (s':={ s' with heap:=h4 }) (ch:=[]) os ⟨fun b o e n hb _=>?_,fun b o e n hb hx=>?_,fun b o e n hx=>?_,fun b o e hx=>?_,fun b xs e=>?_,fun b o u e=>?_,fun b ps e=>?_⟩ (fun b o e=>?_) bare (fun b z=>nomatch z)
 ·have e1:=un.keep b o e n hb (by simp)
  obtain⟨ob,q⟩:=cov.old b o e hb
  exact same b o ob q e1
 ·obtain⟨sl,e1⟩:=un.slot b o e n hb (by simp)
  obtain⟨sl',e2⟩:=fr b _ e1 hb
  exact⟨sl',e2⟩
 ·rw [upd_ne (na b o e)];exact un.free b o e n (by simp)
 ·obtain⟨o',e1⟩:=un.there b o e (by simp)
  by_cases m:b∈frs X.stack
  ·obtain⟨sl,q⟩:=fr b o' e1 m
   exact⟨_,q⟩
  ·obtain⟨ob,q⟩:=cov.old b o e m
   exact⟨_,f4.1 b ob q⟩
 ·have e1:=un.tups b xs e
  rw [upd_ne (ntr b _ e1)];exact e1
 ·have e1:=un.frzs b o u e
  rw [upd_ne (ntr b _ e1)];exact e1
 ·obtain⟨more,e1⟩:=un.tbls b ps e
  exact⟨more,by rw [upd_ne (ntr b _ e1)];exact e1⟩
 ·by_cases z:b=a
  ·subst z
   rw [upd_same] at e
   cases e
   obtain⟨oe,_,_,_,_,e2,⟨e3,_⟩,_⟩:=f4.2.2.2
   refine⟨⟨⟨oe,e2,e3⟩,ct⟩,⟨oe,e2⟩,fun h1 h2 ⟨⟨o,e5,e6⟩,⟨o',vs,e7,e8⟩⟩ k=>⟨⟨o,k o e5,e6⟩,⟨o',vs,k o' e7,e8⟩⟩⟩
  ·rw [upd_ne z] at e
   refine (hok b o e).stay (fun c v hc q=>?_) (fun c q=>by rw [upd_ne (ntr c _ q)];exact q) fun c xs q=>by rw [upd_ne (ntr c _ q)];exact q
   obtain⟨ob,q'⟩:∃ ob,B.get? c=some ob:=by
    rcases hc with r | r
    ·rw [r];exact cov.trk b o e
    ·exact cov.trk c _ r
   exact same c v ob q' q
end
end L2
namespace L2
open PySem PySem.Spec PyProof.Rows
structure ExcK (K:PySem.W.Frag) (C:Addr):Prop where
 ga:PySem.W.findIn K (.ref C) "__getattribute__"=some (some (.builtin "BaseException.__getattribute__"))
 gt:PySem.W.findIn K (.ref C) "__getattr__"=some none
 fo:PySem.W.findObj K C none "__class__"=some (.bind (.builtin "getset_descriptor.__get__") (.builtin "object.__class__"))
 mro:PySem.W.mroIn K C (.type "object")=some true
 lk:∃ c dd cd sl,K.lookup C=some ⟨c,dd,.cls cd,sl⟩
 own:∃ B bmB,ExcAttrBase B bmB/\∀ h:Heap,K.In h->∃ nm q N bs bm hdct sn sub ab col dd k0 k1 k2 k3 k5 newId,h.get? C=some (excClassObj nm q C N bs bm hdct sn sub ab col dd k0 k1 k2 k3 k5 newId)/\OwnTailQ h bmB bm
end L2
namespace L2
open PySem PySem.Spec PyProof.Rows
section
variable {K:PySem.W.Frag} {C D R N:Addr} {dd:Option Addr} {cd:ClassData} {sl:Array (Option Value)} {b:Bool}
theorem cls_kit (lk:K.lookup D=some ⟨.type "type",dd,.cls cd,sl⟩) (m:PySem.W.mroIn K C (.ref D)=some b):PySem.W.kitCls K (.ref C) (.ref D)=some b:=by
 have e1:PySem.W.clsIn K D=some cd:=by unfold PySem.W.clsIn;rw [lk]
 have e2:PySem.W.typeIn K (.ref D)=some (.type "type"):=by show Option.map (fun x=>x.cls) (List.lookup D K)=_;rw [lk];rfl
 show (if ((PySem.W.clsIn K D).isSome&&PySem.W.typeIn K (Value.ref D)==some (Value.type "type"))=true then PySem.W.subIn K (Value.ref C) (Value.ref D) else none)=some b
 rw [e1,e2]
 rw [if_pos (by simp)]
 exact m
theorem kit_other (ne:(Value.ref C==Value.ref D)=false) (lk:K.lookup D=some ⟨.type "type",dd,.cls cd,sl⟩) (m:PySem.W.mroIn K C (.ref D)=some b):PySem.W.kitOne K (.ref C) (.ref D)=some b:=by
 unfold PySem.W.kitOne
 rw [if_neg (by rw [ne];exact Bool.false_ne_true)]
 exact cls_kit lk m
theorem kit_self:PySem.W.kitOne K (.ref C) (.ref C)=some true:=by
 unfold PySem.W.kitOne
 rw [if_pos (beq_self_eq_true _)]
theorem kit_type{T:String}(mt:PySem.W.kitMeta T=true)(m:PySem.W.mroIn K C (.type T)=some b):PySem.W.kitOne K (.ref C) (.type T)=some b:=by
 unfold PySem.W.kitOne PySem.W.kitCls
 rw [if_neg (by exact fun z=>nomatch (beq_iff_eq.mp z))]
 simp only [mt,if_true]
 exact m
theorem exm_own (lk:K.lookup R=some ⟨.type "type",dd,.cls cd,sl⟩) (m:PySem.W.mroIn K C (.ref R)=some b) (e:PySem.W.mroIn K R (.type "BaseException")=some true):PySem.W.exmOne K (.ref C) (.ref R)=some b:=by
 unfold PySem.W.exmOne
 rw [if_pos (by show (PySem.W.mroIn K R (.type "BaseException")==some true)=true;rw [e];rfl)]
 exact cls_kit lk m
theorem find_none {name:Str} {a g:Value} (lk:K.lookup C=some ⟨.type "type",dd,.cls cd,sl⟩) (h1:PySem.W.findIn K (.ref C) name=some (some a)) (h2:PySem.W.specialIn K a "__get__"=some (some g)) (h3:PySem.W.takesIn K a=some true):PySem.W.findObj K C none name=some (.bind g a):=by
 have e1:PySem.W.clsIn K C=some cd:=by unfold PySem.W.clsIn;rw [lk]
 unfold PySem.W.findObj
 simp only [e1,h1,h2,h3,Option.bind_some]
end
def strKeys(es:Array DictEntry):Bool:=es.toList.all fun e=>match e.key with | .str _ _=>true | _=>false
theorem nsOk_of{K:PySem.W.Frag}{N:Addr}{c:Value}{d:Option Addr}{es:Array DictEntry}{ep:Nat}{sl:Array (Option Value)}(lk:K.lookup N=some ⟨c,d,.dict es ep,sl⟩)(h:strKeys es=true):PySem.W.nsOkIn K N=true:=by
 unfold PySem.W.nsOkIn
 rw [lk]
 unfold strKeys at h
 rw [Array.all_toList] at h
 exact h
theorem quiet4 {P:Str->Prop} (h1:P "__init__") (h2:P "__getattribute__") (h3:P "__getattr__") (h4:P "args"):∀ n∈quietNames,P n:=fun n hn=>by
 unfold quietNames at hn
 simp only [List.mem_cons,List.not_mem_nil,or_false] at hn
 rcases hn with rfl | rfl | rfl | rfl<;>assumption
theorem exc_facts{K:PySem.W.Frag}{C R N NR:Addr}{nm q x:Str}{bs bmB:List Value}{hdct:Bool}{sn:List Str}{sub:List Value}{ab:Bool}{col:Option Bool}{dd dR:Option Addr}{k0 k1 k2 k3 k5:Option Value}{newId B:String}{cR:Value}{cdR:ClassData}{slR:Array (Option Value)}{mg:Str->Option Value}{base:Heap}
  (KX:K.In base) (G:base.Ns mainGlobals mg) (e0:PySem.W.nsIn K mainGlobals x=some (some (.ref C))) (lkC:K.lookup C=some (excClassObj nm q C N bs (.ref R::bmB) hdct sn sub ab col dd k0 k1 k2 k3 k5 newId)) (lkR:K.lookup R=some ⟨cR,dR,.cls cdR,slR⟩)
  (nC:PySem.W.nsOkIn K N=true) (iC:PySem.W.nsIn K N "__init__"=some none) (eR:cdR.ns=NR) (nR:PySem.W.nsOkIn K NR=true) (r1:PySem.W.nsIn K NR "__init__"=some none) (r2:PySem.W.nsIn K NR "__getattribute__"=some none) (r3:PySem.W.nsIn K NR "__getattr__"=some none) (r4:PySem.W.nsIn K NR "args"=some none)
  (FB:ExcAttrBase B bmB) (ga:PySem.W.findIn K (.ref C) "__getattribute__"=some (some (.builtin "BaseException.__getattribute__"))) (gt:PySem.W.findIn K (.ref C) "__getattr__"=some none) (gc:PySem.W.findIn K (.ref C) "__class__"=some (some (.builtin "object.__class__")))
  (sp:PySem.W.specialIn K (.builtin "object.__class__") "__get__"=some (some (.builtin "getset_descriptor.__get__"))) (tk:PySem.W.takesIn K (.builtin "object.__class__")=some true) (mr:PySem.W.mroIn K C (.type "object")=some true):OwnCls x C bmB newId mg base/\ExcK K C:=by
 subst eR
 refine⟨⟨PySem.W.mg_of KX G e0,?_⟩,⟨ga,gt,find_none lkC gc sp tk,mr,⟨_,_,_,_,lkC⟩,B,bmB,FB,fun h X=>?_⟩⟩
 ·exact⟨_,N,nm,q,bs,hdct,sn,sub,ab,col,dd,k0,k1,k2,k3,k5,_,KX _ _ lkC,Heap.Ns.of_isNs (PySem.W.isNs_of_in KX nC),PySem.W.nsMap_none_of_in KX nC iC,
   .own (KX _ _ lkR) (Heap.Ns.of_isNs (PySem.W.isNs_of_in KX nR)) (PySem.W.nsMap_none_of_in KX nR r1) .base⟩
 ·exact⟨nm,q,N,bs,_,hdct,sn,sub,ab,col,dd,k0,k1,k2,k3,k5,newId,X _ _ lkC,.own (X _ _ lkR) (Heap.Ns.of_isNs (PySem.W.isNs_of_in X nR))
   (quiet4 (PySem.W.nsMap_none_of_in X nR r1) (PySem.W.nsMap_none_of_in X nR r2) (PySem.W.nsMap_none_of_in X nR r3) (PySem.W.nsMap_none_of_in X nR r4)) .base⟩
end L2
namespace L2
open PySem PySem.Spec PyProof.Rows
structure DefX (P:Program) (w:World) (K:PySem.W.Frag) (mg:Str->Option Value) (base:Heap) (k:Nat) (x:Str) (st:Stmt) (ps:List Str) (sp:Sp):Prop where
 ex:∃ f fd,Fun K x x st f fd/\mg x=some (.ref f)/\Binds K fd ps []/\FnOk P w K mg base (CXx P w) k f fd ps sp
section
variable {P:Program} {w:World} {K:PySem.W.Frag} {mg:Str->Option Value} {base:Heap} {k:Nat} {x:Str} {st:Stmt} {ps:List Str} {sp:Sp}
theorem Fn.mkX(E:Fn K mg x st ps)(h:∀ f fd,Fun K x x st f fd->FnOk P w K mg base (CXx P w) k f fd ps sp):DefX P w K mg base k x st ps sp:=by
 obtain⟨f,fd,F,m,b⟩:=E.ex
 exact⟨f,fd,F,m,b,h f fd F⟩
theorem Fun.okX{qual:Str}{f:Addr}{fd:FuncData}{N:List Str}(F:Fun K x qual st f fd)(S:FnScope N ps (defScope st))(len:∀ vs H Q E,sp vs H Q E->vs.length=ps.length)
  (hbody:∀ (cdv:Value) (A:Around) (outer:List Env) (s:Shared) (H:Hp) (vs:List V) (Q:VK) (E:XK),Room k (A.deeper (envOfC qual (defScope st) s.heap.objs.size f cdv))->sp vs H Q E →
   ∃ (σ:St) (t:TS),start N vs=σ/\PSs (cxOf (CXx P w) P w K mg base N qual (defScope st) f cdv A outer s H E) (defBody st) t/\t { nx:=fun _ H'=>Q .non H',rt:=Q } σ H):FnOk P w K mg base (CXx P w) (k+1) f fd ps sp:=by
 obtain⟨oc,od,kV,doc,pm,an,cdv,ct,osl,rfl,lk,hcd⟩:=F.ex
 refine fn_of lk hcd S len fun A outer s H vs Q E hr hsp=>?_
 obtain⟨σ,t,e,h,q⟩:=hbody cdv A outer s H vs Q E hr hsp
 exact⟨t,h,by rw [e];exact q⟩
end
section
variable {X:Cx}
theorem ps_nox{st:Stmt}{t:TS}(h:PS X.nox st t):PS X st t:=fun pins s σ H D I hw=>
 wpAny_mono (h pins s σ H D (I.wish _) hw) (fun _ _ q=>q.unwish) fun _ _ z=>False.elim z
theorem pt_nox{e:Expr}{t:TT}(h:PT X.nox e t):PT X e t:=h.nox
theorem pe_callX{k:Nat}{x:Str}{st:Stmt}{ps:List Str}{sp:Sp}{e:Expr}{es:List Expr}{t:TA}{p pos:Pos}(D:DefX X.prog X.w X.K X.mg X.base k x st ps sp)(hr:Room k X.A)(hg:Gl X x)(ha:PA X (e::es) t)
  (hdb:(x==("__debug__":Str))=false:=by decide) (he:starEach (e::es) X.env=(false,eval e X.env)::starEach es X.env:=by rfl) (hpl:(backTo pos (starEach es X.env)).any (·.1)=false:=by rfl) :
  PE X (.Call (.Name x p) (e::es) [] pos) (tCall sp [] E0 t):=by
 obtain⟨f,fd,F,m,b,G⟩:=D.ex
 exact pe_call G hr hg m F.kp b .nil passX ha hdb he hpl
end
section
variable {σ:St} {H:Hp}
theorem w_raise{C:Addr}{E:XK}{t:TA}{D:Ends}:tRaise C E t D σ H=t σ H fun vs H1=>vs.length<=sizeLine/\E (.ref C) none H1:=rfl
end
structure Jst (K:PySem.W.Frag) (C:Addr) (ds:List Addr) (due:Nat):Prop where
 ek:ExcK K C
 kit:∀ j d,ds[j]? = some d->PySem.W.kitOne K (.ref C) (.ref d)=some (decide (j=due))
 val:PySem.W.kitOne K (.ref C) (.type "ValueError")=some true
end L2
namespace Rm
open PySem L2
def TxtOk:PyData->Prop
 | .str z=>z.cps.all (·<128)=true/\z.length<=1000
 | _=>True
def isWordD:PyData->Bool
 | .str z=>isW z
 | _=>false
theorem isWord_of{K:PySem.W.Frag}{H:Hp}{x:V}{d:PyData}{Q:VK}{E:XK}(h:Dat H x d)(t:TxtOk d)(q:Q (.bl (isWordD d)) H):spIsWord K [x] H Q E:=by
 refine⟨x,rfl,?_⟩
 cases id h with
 | str z=>exact .inl ⟨z,rfl,t.1,t.2,q⟩
 | non=>exact .inr ⟨_,h.ty,rfl,q⟩
 | bl b=>exact .inr ⟨_,h.ty,rfl,q⟩
 | int i=>exact .inr ⟨_,h.ty,rfl,q⟩
 | tup h1 h2=>exact .inr ⟨_,h.ty,rfl,q⟩
 | lst h1 h2=>exact .inr ⟨_,h.ty,rfl,q⟩
def spPairsX(C:Addr):Sp:=fun vs H Q E=>∃ x,vs=[x]/\((∃ bs ms,x=.str (wd bs)/\Bal bs/\bs.length<=40/\Mates bs bs.length ms/\∀ l H',H l=none->Same H H'->BowsAt H' l (msZ ms)->Q (.ref l) H') ∨
 (∃ d,Dat H x d/\TxtOk d/\isWordD d=false/\E (.ref C) none H))
def wordsD(d:PyData):Option (List Bw):=
 match d with
 | .list ds=>if fillsD d&&(ds.map bowOf).all (fun p=>(ds.map bowOf).all fun q=>!crossZ p q) then some (ds.map bowOf) else none
 | _=>none
def spWordOfX(C:Addr):Sp:=fun vs H Q E=>∃ x d,vs=[x]/\Dat H x d/\∀ H',Same H H'->(match wordsD d with | some ps=>Q (.str (wd (wordB ps))) H' | none=>E (.ref C) none H')
theorem wordsD_bows{ps:List Bw}(h:fillsD (bowsD ps)=true)(hc:∀ p∈ps,∀ q∈ps,crossZ p q=false):wordsD (bowsD ps)=some ps:=by
 have e:(ps.map bowD).map bowOf=ps:=by rw [List.map_map];show ps.map id=ps;exact List.map_id _
 show (if fillsD (bowsD ps)&&((ps.map bowD).map bowOf).all (fun p=>((ps.map bowD).map bowOf).all fun q=>!crossZ p q) then some ((ps.map bowD).map bowOf) else none)=some ps
 rw [e,if_pos]
 rw [h,Bool.true_and,List.all_eq_true]
 intro p hp
 rw [List.all_eq_true]
 intro q hq
 rw [hc p hp q hq];rfl
end Rm
namespace Rm
open PySem L2
theorem bows_of_dat{H:Hp}{l:Addr}{xs:List V}{ds:List PyData}(h1:H l=some (.lst xs))(h2:DatL H xs ds)(hb:ds.all isBowD=true):BowsAt H l (ds.map bowOf):=by
 have:∃ as:List Addr,xs=as.map V.ref/\Paired (tupAt H) as (ds.map bowOf):=by
  clear h1
  induction ds generalizing xs with
  | nil=>cases h2;exact⟨[],rfl,.nil⟩
  | cons d ds ih=>
   cases h2 with
   | cons hd tl=>
   rw [List.all_cons,Bool.and_eq_true] at hb
   obtain⟨as,rfl,p⟩:=ih tl hb.2
   obtain⟨a,rfl,ta⟩:=bow_at hd hb.1
   exact⟨a::as,rfl,.cons ta p⟩
 obtain⟨as,rfl,p⟩:=this
 exact⟨as,h1,p⟩
end Rm
namespace Rm
open PySem L2
theorem tup_of{H:Hp}{x:V}{d:PyData}(h:Dat H x d)(ht:isT d=true):∃ a xs ds,x=.ref a/\d=.tuple ds/\H a=some (.tup xs)/\DatL H xs ds:=by
 cases h<;>first | exact⟨_,_,_,rfl,rfl,by assumption,by assumption⟩ | cases ht
theorem lst_ofD{H:Hp}{x:V}{d:PyData}(h:Dat H x d)(ht:isL d=true):∃ a xs ds,x=.ref a/\d=.list ds/\H a=some (.lst xs)/\DatL H xs ds:=by
 cases h<;>first | exact⟨_,_,_,rfl,rfl,by assumption,by assumption⟩ | cases ht
theorem bow_notT{d:PyData}(h:isT d=false):isBowD d=false:=by
 cases d<;>first | rfl | cases h
theorem fills_notL{d:PyData}(h:isL d=false):fillsD d=false:=by
 cases d<;>first | rfl | cases h
end Rm
namespace L2
open PySem PySem.Spec PyProof.Rows
section
variable {κ:Type} [DecidableEq κ]
def valV(kvs:List (κ×V))(k:κ):Option V:=(kvs.find? fun kv=>decide (kv.1=k)).map (·.2)
def putK(kvs:List (κ×V))(k:κ)(v:V):List (κ×V):=
 if (kvs.any fun kv=>decide (kv.1=k))=true then kvs.map (fun kv=>if kv.1=k then (kv.1,v) else kv) else kvs++[(k,v)]
theorem valV_pos{p:κ×V}{r:List (κ×V)}{k:κ}(e:p.1=k):valV (p::r) k=some p.2:=by simp [valV,List.find?_cons,e]
theorem valV_neg{p:κ×V}{r:List (κ×V)}{k:κ}(e:¬ p.1=k):valV (p::r) k=valV r k:=by simp [valV,List.find?_cons,e]
theorem valV_any(k:κ):∀ kvs:List (κ×V),(kvs.any fun kv=>decide (kv.1=k))=(valV kvs k).isSome
 | []=>rfl
 | p::r=>by
  rw [List.any_cons]
  by_cases e:p.1=k
  ·simp only [valV_pos e,decide_eq_true e,Bool.true_or,Option.isSome_some]
  ·rw [valV_neg e,decide_eq_false e,Bool.false_or];exact valV_any k r
theorem valV_map(k j:κ)(y:V):∀ kvs:List (κ×V),valV (kvs.map fun kv=>if kv.1=k then (kv.1,y) else kv) j=(valV kvs j).map fun x=>if j=k then y else x
 | []=>rfl
 | p::r=>by
  have ih:=valV_map k j y r
  rw [List.map_cons]
  by_cases h:p.1=k
  ·rw [if_pos h]
   by_cases e:p.1=j
   ·rw [valV_pos (p:=(p.1,y)) e,valV_pos e,Option.map_some,if_pos (e.symm.trans h)]
   ·rw [valV_neg (p:=(p.1,y)) e,valV_neg e,ih]
  ·rw [if_neg h]
   by_cases e:p.1=j
   ·rw [valV_pos (p:=p) e,valV_pos e,Option.map_some,if_neg (fun z=>h (e.trans z))]
   ·rw [valV_neg (p:=p) e,valV_neg e,ih]
theorem valV_snoc(k j:κ)(y:V):∀ kvs:List (κ×V),valV kvs k=none->valV (kvs++[(k,y)]) j=if j=k then some y else valV kvs j
 | [],_=>by
  by_cases e:k=j
  ·rw [if_pos e.symm];exact valV_pos (p:=(k,y)) e
  ·rw [if_neg (fun z=>e z.symm)];exact valV_neg (p:=(k,y)) e
 | p::r,hn=>by
  rw [List.cons_append]
  have hk:¬ p.1=k:=fun z=>by rw [valV_pos z] at hn;cases hn
  rw [valV_neg hk] at hn
  have ih:=valV_snoc k j y r hn
  by_cases e:p.1=j
  ·rw [valV_pos e,valV_pos e,if_neg (fun z=>hk (e.trans z))]
  ·rw [valV_neg e,valV_neg e,ih]
theorem valV_put(kvs:List (κ×V))(k j:κ)(y:V):valV (putK kvs k y) j=if j=k then some y else valV kvs j:=by
 unfold putK
 by_cases a:(kvs.any fun kv=>decide (kv.1=k))=true
 ·rw [if_pos a,valV_map]
  rw [valV_any] at a
  by_cases e:j=k
  ·obtain⟨x,hx⟩:=Option.isSome_iff_exists.mp a
   rw [if_pos e,e,hx,Option.map_some,if_pos rfl]
  ·rw [if_neg e]
   cases valV kvs j with
   | none=>rfl
   | some x=>rw [Option.map_some,if_neg e]
 ·rw [if_neg a]
  refine valV_snoc k j y kvs ?_
  rw [valV_any] at a
  cases q:valV kvs k with
  | none=>rfl
  | some x=>rw [q] at a;exact (a rfl).elim
theorem length_putK(kvs:List (κ×V))(k:κ)(v:V):(putK kvs k v).length<=kvs.length+1:=by
 unfold putK
 split
 ·rw [List.length_map];omega
 ·rw [List.length_append,List.length_cons,List.length_nil];omega
theorem RelO.isSome_eq{o:Option V}{u:Option Value}(r:RelO o u):o.isSome=u.isSome:=by
 cases o with
 | none=>cases u with
  | none=>rfl
  | some _=>exact (show False from r).elim
 | some _=>cases u with
  | none=>exact (show False from r).elim
  | some _=>rfl
theorem KV.val{kvs:List (κ×V)}{vs:List (κ×Value)}(r:KV kvs vs)(k:κ):RelO (valV kvs k) (valueAt vs k):=by
 unfold KV at r
 induction r with
 | nil=>exact True.intro
 | @cons p q ps qs h t ih=>
  obtain⟨h1,h2⟩:=h
  by_cases e:p.1=k
  ·have e':q.1=k:=h1.symm.trans e
   have b:valueAt (q::qs) k=some q.2:=by simp [valueAt,List.find?_cons,e']
   rw [valV_pos e,b];exact h2
  ·have e':¬ q.1=k:=fun z=>e (h1.trans z)
   have b:valueAt (q::qs) k=valueAt qs k:=by simp [valueAt,List.find?_cons,e']
   rw [valV_neg e,b];exact ih
theorem KV.any{kvs:List (κ×V)}{vs:List (κ×Value)}(r:KV kvs vs)(k:κ):(kvs.any fun kv=>decide (kv.1=k))=vs.any fun kv=>decide (kv.1=k):=by
 unfold KV at r
 induction r with
 | nil=>rfl
 | cons h t ih=>rw [List.any_cons,List.any_cons,ih,h.1]
theorem KV.repl{kvs:List (κ×V)}{vs:List (κ×Value)}(r:KV kvs vs)(k:κ){y:V}{u:Value}(ry:RelV y u):
  KV (kvs.map fun kv=>if kv.1=k then (kv.1,y) else kv) (vs.map fun kv=>if kv.1=k then (kv.1,u) else kv):=by
 unfold KV at r ⊢
 induction r with
 | nil=>exact .nil
 | @cons p q ps qs h t ih=>
  rw [List.map_cons,List.map_cons]
  refine .cons ?_ ih
  obtain⟨h1,h2⟩:=h
  by_cases e:p.1=k
  ·rw [if_pos e,if_pos (h1.symm.trans e)];exact⟨h1,ry⟩
  ·rw [if_neg e,if_neg (fun z=>e (h1.trans z))];exact⟨h1,h2⟩
theorem KV.put{kvs:List (κ×V)}{vs:List (κ×Value)}(r:KV kvs vs)(k:κ){y:V}{u:Value}(ry:RelV y u):KV (putK kvs k y) (stored vs k u):=by
 unfold putK stored
 rw [r.any k]
 by_cases e:(vs.any fun kv=>decide (kv.1=k))=true
 ·rw [if_pos e,if_pos e];exact r.repl k ry
 ·rw [if_neg e,if_neg e];exact Paired.snoc r ⟨rfl,ry⟩
theorem KV.length{kvs:List (κ×V)}{vs:List (κ×Value)}(r:KV kvs vs):kvs.length=vs.length:=Paired.length r
end
theorem kV_is{P:Program}{w:World}{k:Key}{u:Value}(r:RelV (kV k) u):(mixKind P w).is k u=true:=by
 cases k with
 | inl i=>obtain⟨t,e⟩:=(show ∃ t,u=Value.int i t from r);subst e;exact mixKind_int P w i t
 | inr x=>obtain⟨t,e⟩:=(show ∃ t,u=Value.str x t from r);subst e;exact mixKind_str P w x t
theorem items_are{P:Program}{w:World}:∀ {ks:List Key} {us:List Value},Vals (ks.map kV) us->ItemsAre (mixKind P w) ks us
 | [],_,r=>by rw [List.map_nil] at r;cases r;exact .nil
 | k::ks,_,r=>by
  rw [List.map_cons] at r
  cases r with
  | cons h t=>exact .cons (kV_is h) (items_are t)
abbrev KT (H:Hp):List (List Key×V)->List (List Key×Addr×Value)->Prop:=Paired fun p q=>p.1=q.1/\H q.2.1=some (.tup (p.1.map kV))/\RelV p.2 q.2.2
theorem KT.val{H:Hp}{kvs:List (List Key×V)}{xs:List (List Key×Addr×Value)}(r:KT H kvs xs)(k:List Key):RelO (valV kvs k) ((atKey xs k).map (·.2)):=by
 induction r with
 | nil=>exact True.intro
 | @cons p q ps qs h t ih=>
  obtain⟨h1,_,h2⟩:=h
  by_cases e:p.1=k
  ·have e':q.1=k:=h1.symm.trans e
   have b:atKey (q::qs) k=some q.2:=by simp [atKey,List.find?_cons,e']
   rw [valV_pos e,b];exact h2
  ·have e':¬ q.1=k:=fun z=>e (h1.trans z)
   have b:atKey (q::qs) k=atKey qs k:=by simp [atKey,List.find?_cons,e']
   rw [valV_neg e,b];exact ih
theorem KT.repl{H:Hp}{kvs:List (List Key×V)}{xs:List (List Key×Addr×Value)}(r:KT H kvs xs)(k:List Key){y:V}{u:Value}(ry:RelV y u):
  KT H (kvs.map fun kv=>if kv.1=k then (kv.1,y) else kv) (xs.map (putAt k u)):=by
 induction r with
 | nil=>exact .nil
 | @cons p q ps qs h t ih=>
  rw [List.map_cons,List.map_cons]
  refine .cons ?_ ih
  obtain⟨h1,h2,h3⟩:=h
  unfold putAt
  by_cases e:p.1=k
  ·rw [if_pos e,if_pos (h1.symm.trans e)];exact⟨h1,h2,ry⟩
  ·rw [if_neg e,if_neg (fun z=>e (h1.trans z))];exact⟨h1,h2,h3⟩
theorem KT.put{H:Hp}{kvs:List (List Key×V)}{xs:List (List Key×Addr×Value)}(r:KT H kvs xs)(k:List Key){b:Addr}{y:V}{u:Value}(hb:H b=some (.tup (k.map kV)))(ry:RelV y u):
  KT H (putK kvs k y) (storedH xs k b u):=by
 have e:(kvs.any fun kv=>decide (kv.1=k))=(atKey xs k).isSome:=by
  rw [valV_any,(r.val k).isSome_eq,Option.isSome_map]
 unfold putK storedH
 rw [e]
 by_cases q:(atKey xs k).isSome=true
 ·rw [if_pos q,if_pos q];exact r.repl k ry
 ·rw [if_neg q,if_neg q];exact Paired.snoc r ⟨rfl,hb,ry⟩
theorem KT.keeps{H H':Hp}{kvs:List (List Key×V)}{xs:List (List Key×Addr×Value)}(r:KT H kvs xs)(ht:∀ b ys,H b=some (.tup ys)->H' b=some (.tup ys)):KT H' kvs xs:=
 Paired.mapP r fun _ _ z=>⟨z.1,ht _ _ z.2.1,z.2.2⟩
section
variable {P:Program} {w:World} {H:Hp} {h:Heap} {a:Addr}
theorem rd_of{u:HO}(ok:HOk P w H h)(e:Rd H a u):ObjOk P w H h a u:=e.ok ok
theorem dk_rd{kvs:List (Key×V)}(ok:HOk P w H h)(e:Rd H a (.dK kvs)):kvs.length<=sizeLine/\(a==sysModules)=false/\∃ vs,KV kvs vs/\h.DictOf (mixKind P w) a vs:=
 show ObjOk P w H h a (.dK kvs) from rd_of ok e
theorem dk_of{kvs:List (Key×V)}(ok:HOk P w H h)(e:H a=some (.dK kvs)):kvs.length<=sizeLine/\(a==sysModules)=false/\∃ vs,KV kvs vs/\h.DictOf (mixKind P w) a vs:=dk_rd ok (.inl e)
theorem key_of{ks:List Key}(ok:HOk P w H h)(e:H a=some (.tup (ks.map kV))):(tupleKind (mixKind P w)).is h ks a:=by
 obtain⟨_,its,r,o,h1,h2,n,h3⟩:=(show ObjOk P w H h a (.tup (ks.map kV)) from ok a _ e)
 exact⟨o,its.toArray,n,h1,h2,h3,by simpa using items_are r⟩
theorem dt_rd{kvs:List (List Key×V)}(ok:HOk P w H h)(e:Rd H a (.dT kvs)):kvs.length<=sizeLine/\(a==sysModules)=false ∧
  ∃ xs,KT H kvs xs/\h.DictOfH (tupleKind (mixKind P w)) a xs:=by
 obtain⟨z,y,xs,r,o,es,ep,h1,h2,h3,h4,h5⟩:=(show ObjOk P w H h a (.dT kvs) from rd_of ok e)
 refine⟨z,y,xs,r,o,es,ep,h1,h2,h3,h4,fun x hx=>?_,h5⟩
 have all:∀ {l:List (List Key×V)} {m:List (List Key×Addr×Value)},KT H l m->∀ x∈m,(tupleKind (mixKind P w)).is h x.1 x.2.1:=by
  intro l m q
  induction q with
  | nil=>intro x hx;exact nomatch hx
  | @cons p q ps qs hq t ih=>
   intro x hx
   rcases List.mem_cons.mp hx with e | hx
   ·subst e
    exact key_of ok (by rw [<-hq.1];exact hq.2.1)
   ·exact ih x hx
 exact all r x hx
theorem dt_of{kvs:List (List Key×V)}(ok:HOk P w H h)(e:H a=some (.dT kvs)):kvs.length<=sizeLine/\(a==sysModules)=false ∧
  ∃ xs,KT H kvs xs/\h.DictOfH (tupleKind (mixKind P w)) a xs:=dt_rd ok (.inl e)
end
def DGet(H:Hp)(a:Addr)(y:V)(r:Option V):Prop:=
 (∃ kvs k,Rd H a (.dK kvs)/\y=kV k/\r=valV kvs k)\/∃ kvs k b,Rd H a (.dT kvs)/\y=.ref b/\H b=some (.tup (k.map kV))/\r=valV kvs k
def DPut(H:Hp)(a:Addr)(y v:V)(H':Hp):Prop:=
 (∃ kvs k,H a=some (.dK kvs)/\y=kV k/\kvs.length<sizeLine/\H'=upd H a (.dK (putK kvs k v))) ∨
 ∃ kvs k b,H a=some (.dT kvs)/\y=.ref b/\H b=some (.tup (k.map kV))/\kvs.length<sizeLine/\H'=upd H a (.dT (putK kvs k v))
theorem DGet.k{H:Hp}{a:Addr}{kvs:List (Key×V)}{k:Key}(e:H a=some (.dK kvs)):DGet H a (kV k) (valV kvs k):=.inl ⟨kvs,k,.inl e,rfl,rfl⟩
theorem DPut.k{H:Hp}{a:Addr}{kvs:List (Key×V)}{k:Key}{v:V}(e:H a=some (.dK kvs))(hl:kvs.length<sizeLine):DPut H a (kV k) v (upd H a (.dK (putK kvs k v))):=.inl ⟨kvs,k,e,rfl,hl,rfl⟩
section
variable {X:Cx} {pins:List (Addr×Obj)} {σ:St} {H:Hp} {s:Shared} {a:Addr} {y v:V} {u r:Value} {o:Option V} {A:Around} {E:Value->Shared->Prop}
theorem Inv.big(I:Inv X pins σ H s):sysModules<s.heap.objs.size:=by
 have h:mainGlobals<s.heap.objs.size:=(I.mod.glob.keeps I.bk).lt
 exact Nat.lt_trans (by decide) h
theorem d_getItem{Q:Value->Shared->Prop}(hu:A.units+1<cLine)(I:Inv X pins σ H s)(g:DGet H a y (some v))(ry:RelV y u)(h:∀ w' s',Inv X pins σ H s'->RelV v w'->Q w' s'):
  wpAny (model X.prog X.w) A (getItem (.ref a) u) Q E s:=by
 rcases g with ⟨kvs,k,e,ey,l⟩ | ⟨kvs,k,b,e,ey,eb,l⟩
 ·subst ey
  obtain⟨z,hd,vs,rel,dd⟩:=dk_rd I.hok e
  obtain⟨w',hw,rw'⟩:=RelO.some_of (v:=v) (o:=valueAt vs k) (by rw [l];exact rel.val k)
  exact wpAny_getItem_of (kV_is ry) dd.mapOf hw (h w' _ (I.tok _) rw')
 ·subst ey
  cases (show u=Value.ref b from ry)
  obtain⟨z,hd,xs,rel,dd⟩:=dt_rd I.hok e
  obtain⟨w',hw,rw'⟩:=RelO.some_of (v:=v) (o:=(atKey xs k).map (·.2)) (by rw [l];exact rel.val k)
  obtain⟨p,hp,hp2⟩:=Option.map_eq_some_iff.mp hw
  refine wpAny_getItem_heap (tupleKind_room_in1 hu) (key_of I.hok eb) dd hp ?_
  rw [hp2]
  exact h w' _ (I.tok _) rw'
theorem d_notIn{Q:Value->Shared->Prop}(hu:A.units+1<cLine)(I:Inv X pins σ H s)(g:DGet H a y o)(ry:RelV y u)(h:∀ s',Inv X pins σ H s'->Q (.bool (!o.isSome)) s'):
  wpAny (model X.prog X.w) A (compareOp .NotIn u (.ref a)) Q E s:=by
 rcases g with ⟨kvs,k,e,ey,l⟩ | ⟨kvs,k,b,e,ey,eb,l⟩
 ·subst ey
  obtain⟨z,hd,vs,rel,dd⟩:=dk_rd I.hok e
  refine wpAny_notIn_of (kV_is ry) hd dd.mapOf ?_
  rw [<-(rel.val k).isSome_eq,<-l]
  exact h _ (I.tok _)
 ·subst ey
  cases (show u=Value.ref b from ry)
  obtain⟨z,hd,xs,rel,dd⟩:=dt_rd I.hok e
  refine wpAny_notIn_heap (tupleKind_room_in1 hu) (key_of I.hok eb) hd dd ?_
  have q:=(rel.val k).isSome_eq
  rw [Option.isSome_map] at q
  rw [<-q,<-l]
  exact h _ (I.tok _)
theorem d_write{h':Heap}{t':Nat}{ob:HO}(I:Inv X pins σ H s)(mu:Mut (H a))(hs:Heap.SameBut a s.heap h')(he:∃ q,h'.get? a=some q)(new:ObjOk X.prog X.w (upd H a ob) h' a ob):
  Inv X pins σ (upd H a ob) { s with heap:=h',toks:=t' }:=
 I.write (x:=a) (e:=a) mu (.inl rfl) (fun b q hb z=>(hs.2 b hb).trans z) he new
theorem dk_new{P:Program}{w:World}{H':Hp}{h':Heap}{kvs:List (Key×V)}{vs:List (Key×Value)}(z:kvs.length<=sizeLine)(hd:(a==sysModules)=false)(rel:KV kvs vs)(dd:h'.DictOf (mixKind P w) a vs):
  ObjOk P w H' h' a (.dK kvs):=⟨z,hd,vs,rel,dd⟩
theorem d_setItem{H':Hp}{Q:Unit->Shared->Prop}(hu:A.units+1<cLine)(I:Inv X pins σ H s)(g:DPut H a y v H')(ry:RelV y u)(rv:RelV v r)(h:∀ s',Inv X pins σ H' s'->Q () s'):
  wpAny (model X.prog X.w) A (setItem (.ref a) u r) Q E s:=by
 rcases g with ⟨kvs,k,e,ey,l,eH⟩ | ⟨kvs,k,b,e,ey,eb,l,eH⟩
 ·subst ey eH
  obtain⟨z,hd,vs,rel,dd⟩:=dk_of I.hok e
  have hz:vs.length<=sizeLine:=by rw [<-rel.length];exact z
  have hl:(putK kvs k v).length<=sizeLine:=by have:=length_putK kvs k v;omega
  refine wpAny_setItem_pairs (hsz:=hz) (kV_is ry) dd fun h' dd' hs=>h _ ?_
  have he:∃ q,h'.get? a=some q:=let ⟨q,_,_,hq,_⟩:=dd';⟨q,hq⟩
  exact d_write I (by rw [e];exact True.intro) hs he (dk_new hl hd (rel.put k rv) dd')
 ·subst ey eH
  cases (show u=Value.ref b from ry)
  obtain⟨z,hd,xs,rel,dd⟩:=dt_of I.hok e
  have hz:xs.length<=sizeLine:=by rw [<-Paired.length rel];exact z
  have hl:(putK kvs k v).length<=sizeLine:=by have:=length_putK kvs k v;omega
  refine wpAny_setItem_heap (hsz:=hz) (tupleKind_room_in1 hu) (key_of I.hok eb) dd fun h' dd' hs=>h _ ?_
  obtain⟨q,es,ep,hq,h2,h3,h4,_,h5⟩:=dd'
  refine d_write I (by rw [e];exact True.intro) hs ⟨q,hq⟩ ⟨hl,hd,_,(rel.put k eb rv).keeps fun c ys ec=>?_,q,es,ep,hq,h2,h3,h4,h5⟩
  rw [upd_ne (ne_of ec e (fun z=>nomatch z))]
  exact ec
end
def NoSl(i:Expr):Prop:=∀ ov iv,subscripted i false ov iv=operate [ov,iv] (getItem ov iv)
theorem subD_of{prog:Program}{w:World}{A:Around}{E:Value->Shared->Prop}{s:Shared}{env:Env}{value slice:Expr}{pos:Pos}{T id:String}{Q:Value->Shared->Prop}
  (hl:typeLookup (.type T) "__getitem__"=pure (some (.builtin id))) (hs:NoSl slice)
  (h:wpAny (model prog w) A (eval value env) (fun o s₁=>wpAny (model prog w) A (eval slice env) (fun i s₂=>s₂.TypeIs o T/\wpAny (model prog w) A (getItem o i) Q E s₂) E s₁) E s) :
  wpAny (model prog w) A (eval (.Subscript value slice pos) env) Q E s:=by
 refine Subscript_ (wpAny_mono h (fun o s₁ h₁=>wpAny_mono h₁ (fun i s₂ h₂=>?_) fun _ _ x=>x) fun _ _ x=>x)
 obtain⟨hT,h₂⟩:=h₂
 unfold subscriptTail
 refine wpAny_bind ?_
 rw [getitemInPython_of_ne hT.not_modules]
 refine wpAny_bind (wpAny_specialOf hT hl ?_)
 have fin:wpAny (model prog w) A (subscripted slice false o i) (fun r s₃=>wpAny (model prog w) A (letTemporaryGo value o r>>=fun _=>pure r) Q E s₃) E s₂:=by
  rw [hs o i]
  exact wpAny_operating (wpAny_mono h₂ (fun r s₃ h₃=>wpAny_bind (wpAny_letTemporaryGo (wpAny_pure h₃))) fun _ _ x=>x)
 first
  | exact wpAny_pure (wpAny_bind fin)
  | exact wpAny_bind (wpAny_pure (wpAny_bind fin))
  | exact wpAny_bind fin
theorem dict_typeIs {X:Cx} {pins:List (Addr×Obj)} {σ:St} {H:Hp} {s:Shared} {a:Addr} {y:V} {o:Option V} (I:Inv X pins σ H s) (g:DGet H a y o):s.TypeIs (.ref a) "dict":=by
 rcases g with ⟨kvs,k,e,_,_⟩ | ⟨kvs,k,b,e,_,_,_⟩
 ·obtain⟨_,_,vs,_,dd⟩:=dk_rd I.hok e
  exact dd.typeIs
 ·obtain⟨_,_,xs,_,dd⟩:=dt_rd I.hok e
  exact dd.typeIs
def tDGet(td ty:TE):TE:=fun σ H Q=>td σ H fun x H1=>ty σ H1 fun y H2=>∃ a v,x=.ref a/\DGet H2 a y (some v)/\Q v H2
def tDIn(ty td:TE):TE:=fun σ H Q=>ty σ H fun y H1=>td σ H1 fun x H2=>∃ a o,x=.ref a/\DGet H2 a y o/\Q (.bl o.isSome) H2
def tDNotIn(ty td:TE):TE:=fun σ H Q=>ty σ H fun y H1=>td σ H1 fun x H2=>∃ a o,x=.ref a/\DGet H2 a y o/\Q (.bl (!o.isSome)) H2
def sDPut(td ty tv:TE):TS:=fun D σ H=>tv σ H fun v H1=>td σ H1 fun x H2=>ty σ H2 fun y H3=>∃ a H4,x=.ref a/\DPut H3 a y v H4/\D.nx σ H4
section
variable {X:Cx} {o i e value:Expr} {pos pos' tpos:Pos} {td ty tv:TE}
theorem pe_dget(hu:X.A.units+1<cLine)(ho:PE X o td)(hi:PE X i ty)(hs:NoSl i):PE X (.Subscript o i pos) (tDGet td ty):=by
 intro pins s σ H Q I h
 refine subD_of PySem.F.slot_dict_getitem.lookup hs (thn (ho pins s σ H _ I h) fun u s1 ⟨x,H1,I1,rx,q1⟩=>thn (hi pins s1 σ H1 _ I1 q1) fun iv s2 ⟨y,H2,I2,ry,a,v,ex,g,q2⟩=>?_)
 subst ex
 obtain rfl:u=Value.ref a:=rx
 exact⟨dict_typeIs I2 g,d_getItem hu I2 g ry fun w' s3 I3 rw'=>⟨v,H2,I3,rw',q2⟩⟩
theorem pc_dnotin(hu:X.A.units+1<cLine)(hi:PE X i ty)(ho:PE X o td):PC X .NotIn i o (tDNotIn ty td):=by
 intro pins s σ H Q I h
 refine thn (hi pins s σ H _ I h) fun iv s1 ⟨y,H1,I1,ry,q1⟩=>thn (ho pins s1 σ H1 _ I1 q1) fun u s2 ⟨x,H2,I2,rx,a,ov,ex,g,q2⟩=>?_
 subst ex
 obtain rfl:u=Value.ref a:=rx
 exact d_notIn hu I2 g ry fun s3 I3=>⟨.bl (!ov.isSome),H2,I3,rfl,q2⟩
theorem ps_dput(hu:X.A.units+1<cLine)(ho:PE X o td)(hi:PE X i ty)(hv:PE X value tv)(hs:swapsWith value (some (.Subscript o i pos')) pos.line X.env=pure false):
  PS X (.Assign [.Subscript o i pos'] value pos) (sDPut td ty tv):=by
 intro pins s σ H D I h
 refine wpAny_Assign_Subscript (thn (hv pins s σ H _ I h) fun r s1 ⟨v,H1,I1,rv,q1⟩=>thn (ho pins s1 σ H1 _ I1 q1) fun u s2 ⟨x,H2,I2,rx,q2⟩=>thn (hi pins s2 σ H2 _ I2 q2) fun iv s3 ⟨y,H3,I3,ry,a,H4,ex,g,q3⟩=>?_) hs
 subst ex
 obtain rfl:u=Value.ref a:=rx
 exact d_setItem hu I3 g ry rv fun s4 I4=>⟨σ,H4,I4,q3⟩
end
theorem dk_empty {P:Program} {w:World} {H:Hp} (h:Heap) (hb:sysModules<h.objs.size):ObjOk P w H (h.push { cls:=.type "dict",data:=.dict #[] }) h.objs.size (.dK []):=
 ⟨Nat.zero_le _,beq_eq_false_iff_ne.mpr (Ne.symm (Nat.ne_of_lt hb)),[],.nil,Heap.DictOf.new h⟩
def tDNewK:TE:=fun _ H Q=>∀ p,H p=none->Q (.ref p) (upd H p (.dK []))
section
variable {X:Cx} {pos:Pos}
theorem pe_dnewK:PE X (.Dict [] [] pos) tDNewK:=fun pins s σ H Q I h=>
 wpAny_Dict_empty ⟨.ref s.heap.objs.size,_,I.laid (a:=s.heap.objs.size) (o:=.dK []) (t':=s.toks) (fun _ _ q=>Heap.get?_push_of_some _ q) (Nat.le_refl _) (dk_empty s.heap I.big),rfl,h _ (I.hok.fresh (Nat.le_refl _))⟩
end
def IsD(H:Hp)(a:Addr):Prop:=(∃ kvs,Rd H a (.dK kvs))\/∃ kvs,Rd H a (.dT kvs)
def tDGet2(td ty tx:TE):TE:=fun σ H Q=>td σ H fun x H1=>∃ a,x=.ref a/\IsD H1 a/\ty σ H1 fun y H2=>tx σ H2 fun z H3=>∃ o,DGet H3 a y o/\Q (o.getD z) H3
end L2
namespace L2
open PySem PySem.Spec PyProof.Rows
section
variable {X:Cx} {pins:List (Addr×Obj)} {σ:St} {H:Hp} {s:Shared} {a:Addr} {o:Obj} {kvs:List (List Key×V)}
theorem w_dget{td ty:TE}{Q:VK}:tDGet td ty σ H Q=td σ H fun x H1=>ty σ H1 fun y H2=>∃ a v,x=.ref a/\DGet H2 a y (some v)/\Q v H2:=rfl
theorem w_dput{td ty tv:TE}{D:Ends}:sDPut td ty tv D σ H=tv σ H fun v H1=>td σ H1 fun x H2=>ty σ H2 fun y H3=>∃ a H4,x=.ref a/\DPut H3 a y v H4/\D.nx σ H4:=rfl
theorem w_dnewK{Q:VK}:tDNewK σ H Q=∀ p,H p=none->Q (.ref p) (upd H p (.dK [])):=rfl
theorem w_din{ty td:TE}{Q:VK}:tDIn ty td σ H Q=ty σ H fun y H1=>td σ H1 fun x H2=>∃ a o,x=.ref a/\DGet H2 a y o/\Q (.bl o.isSome) H2:=rfl
theorem w_dnotin{ty td:TE}{Q:VK}:tDNotIn ty td σ H Q=ty σ H fun y H1=>td σ H1 fun x H2=>∃ a o,x=.ref a/\DGet H2 a y o/\Q (.bl (!o.isSome)) H2:=rfl
theorem pt_dnotin{k d:Expr}{ty td:TE}{pos:Pos}(hu:X.A.units+1<cLine)(hk:PE X k ty)(hd:PE X d td)(hm:behindInMarks .NotIn d=false:=by first | rfl | with_unfolding_all rfl):PT X (.Compare k [.NotIn] [d] pos) (tB (tDNotIn ty td)):=pt_cmp (pc_dnotin hu hk hd) hm
end
end L2
namespace L2
open PySem PySem.Spec PyProof.Rows
section
variable {σ:St} {H:Hp}
theorem w_sl{r:V->Option Int->Option Int->Hp->VK->Prop}{te:TE}{tl th:TO}{Q:VK}:tSl r te tl th σ H Q=te σ H fun x H1=>tl σ H1 fun l H2=>th σ H2 fun u H3=>r x l u H3 Q:=rfl
theorem w_part{t:TE}{Q:Option Int->Hp->Prop}:tPart t σ H Q=t σ H fun x H1=>∃ i,x=.int i/\Q (some i) H1:=rfl
theorem w_nopart{Q:Option Int->Hp->Prop}:tNoPart σ H Q=Q none H:=rfl
end
end L2
namespace Rm
open PySem L2
def odd(i:Nat):Bool:=i % 2==1
end Rm
namespace Rm
open PySem L2
theorem pair_snoc{α β:Type}{F:α->β->Prop}{l:List α}{m:List β}{a:α}{b:β}(h:Paired F l m)(hb:F a b):Paired F (l++[a]) (m++[b]):=by
 induction h with
 | nil=>exact .cons hb .nil
 | cons x y ih=>exact .cons x ih
end Rm
namespace L2
open PySem PySem.Spec PyProof.Rows
section
variable {X:Cx} {pins:List (Addr×Obj)} {σ:St} {H:Hp} {s:Shared} {h':Heap}
theorem Inv.turnNew{fp:List Addr}{p:Addr}{o:HO}{t':Nat}(I:Inv X pins σ H s)(hf:∀ b∈fp,FpOk X pins H b)(k:∀ b u,b∉fp->s.heap.get? b=some u->h'.get? b=some u)(hp:s.heap.objs.size<=p)
  (new:ObjOk X.prog X.w (upd H p o) h' p o):Inv X pins σ (upd H p o) { s with heap:=h',toks:=t' }:=by
 have hn:H p=none:=I.hok.fresh hp
 have nfp:∀ b u,H b=some u->b∉fp:=fun b u e z=>by rw [(hf b z).1] at e;cases e
 refine I.step (g':=s.gens) (d':=s.drawn) (ch:=fp) (fun b hb=>?_) (fun b u _ _ hc e _=>k b u hc e) (fun b u _ _ hc e _=>⟨u.slots,k b u hc e⟩)
  (fun b u _ e n=>by rw [upd_ne (Nat.ne_of_lt (Nat.lt_of_lt_of_le (Heap.lt_size e) hp))];exact n) (fun b u hc e=>⟨u,k b u hc e⟩) (fun b xs e=>by rw [upd_ne (ne_of_none e hn)];exact e)
  (fun b u xs e=>by rw [upd_ne (ne_of_none e hn)];exact e) (fun b ps e=>⟨#[],by rw [upd_ne (ne_of_none e hn),e];simp⟩) (fun m hm=>?_) (fun b u e=>?_) I.bare
 ·obtain⟨_,f1,_,f3,f4,f5⟩:=hf b hb
  exact⟨f3,f1,f4,f5⟩
 ·obtain⟨ob,es,ep,ho,r⟩:=hm
  exact⟨ob,es,ep,k _ ob (fun z=>(hf _ z).2.1 rfl) ho,r⟩
 ·by_cases hb:b=p
  ·subst hb;rw [upd_same] at e;cases e;exact new
  ·rw [upd_ne hb] at e
   refine (I.hok b u e).stay (fun c v hc q=>k c v ?_ q) (fun c q=>by rw [upd_ne (ne_of_none q hn)];exact q) fun c xs q=>by rw [upd_ne (ne_of_none q hn)];exact q
   rcases hc with z | z
   ·rw [z];exact nfp b u e
   ·exact nfp c _ z
end
def Its(x:Str):It:=⟨fun i _=>i<x.cps.size,fun i H v H'=>H'=H/\∃ c,x.cps[i]? = some c/\v=.str ⟨#[c]⟩,fun i _=>x.cps.size<=i⟩
theorem turn_str {P : Program} {w : World} {K : PySem.W.Frag} {tg : Expr} (it : Addr) (x : Str) (t : Tok) : Turn P w K tg (Its x) [it] it (fun i h => h.IsStrIter it "str_ascii_iterator" x t i) where
  mem := by simp
  obj := fun i h st b hb => by
    have e : b = it := by simpa using hb
    subst e
    obtain ⟨o, e, c, d⟩ := st
    exact ⟨o, e, fun v z => by rw [d] at z; cases z⟩
  keep := fun i h h' st k => by
    obtain ⟨o, e, r⟩ := st
    exact ⟨o, k it (by simp) o e, r⟩
  item := by
    intro X hP hw hK hc i pins s σ H E I hf st hg
    subst hP hw hK
    obtain ⟨f0, f1, f2, f3, f4, f5⟩ := hf it (by simp)
    have hx : x.cps[i]? = some x.cps[i] := Array.getElem?_eq_getElem hg
    refine wpAny_pyNext_ascii_item st hx fun h' st' sb => ?_
    have I1 : Inv X pins σ H { s with heap := h', toks := s.toks + 1 } := I.turned (t' := s.toks + 1) (fun b o hb e => (sb.2 b hb).trans e) f0 f1 f3 f4 f5
    obtain ⟨o, e, c, d⟩ := id st'
    exact ⟨_, rfl, go_of (s := { s with heap := h', toks := s.toks + 1 }) e c d (by decide) ⟨.str ⟨#[x.cps[i]]⟩, H, I1, ⟨_, rfl⟩, ⟨rfl, _, hx, rfl⟩, st', fun b hb => (hf b hb).1⟩⟩
  done := by
    intro X hP hw hK hc i pins s σ H E I hf st hg
    subst hP hw hK
    obtain ⟨f0, f1, f2, f3, f4, f5⟩ := hf it (by simp)
    exact wpAny_pyNext_ascii_end (I.ok.hd hc) st (Array.getElem?_eq_none hg) fun h' eb => ⟨rfl, I.turned (t' := s.toks) (fun b o hb e => eb b o hb e) f0 f1 f3 f4 f5⟩
  self := fun _ _ _ _ _ st h => wpAny_pyIter_striter_ascii st h
def iStr(tl:TE):TI:=fun σ H R=>tl σ H fun x H1=>∃ z,x=.str z/\z.cps.all (·<128)=true/\R (Its z) H1
theorem pi_str{X:Cx}{tg l:Expr}{tl:TE}(hl:PE X l tl):PI X tg l (iStr tl):=by
 intro pins s σ H R I h
 refine thn (hl pins s σ H _ I h) fun v s1 ⟨x,H1,I1,r1,z,e,ha,q⟩=>?_
 subst e
 obtain⟨t,rfl⟩:=r1
 refine wpAny_pyIter_ascii ha ?_
 exact⟨s1.heap.objs.size,[s1.heap.objs.size],_,_,H1,rfl,I1.kept (t':=s1.toks) fun b o e=>Heap.get?_push_of_some _ e,turn_str _ z t,⟨_,Heap.get?_push_size _ rfl,rfl,rfl⟩,
  fun b hb=>by
   have e:b=s1.heap.objs.size:=by simpa using hb
   subst e
   exact I1.fpOk (Nat.le_refl _) (I1.hok.fresh (Nat.le_refl _)),q⟩
def Ite(x:Str):It:=⟨fun i _=>i<x.cps.size,fun i H v H'=>∃ p c,H p=none/\x.cps[i]? = some c/\v=.ref p/\H'=upd H p (.tup [.int i,.str ⟨#[c]⟩]),fun i _=>i=x.cps.size⟩
theorem turn_enum {P : Program} {w : World} {K : PySem.W.Frag} {elts : List Expr} {x1 : Nat} {pos : Pos} (e it : Addr) (hne : e ≠ it) (x : Str) (t : Tok) :
    Turn P w K (.Tuple elts x1 pos) (Ite x) [e, it] e (fun i h => (∃ old, IsEnum h e it i old) ∧ h.IsStrIter it "str_ascii_iterator" x t i) where
  mem := by simp
  obj := fun i h st b hb => by
    obtain ⟨⟨old, he⟩, o, ei, c, d⟩ := st
    rcases List.mem_cons.mp hb with z | z
    · subst z; exact ⟨_, he, fun v z => by cases z⟩
    · have z' : b = it := by simpa using z
      subst z'
      exact ⟨o, ei, fun v z => by rw [d] at z; cases z⟩
  keep := fun i h h' st k => by
    obtain ⟨⟨old, he⟩, o, ei, r⟩ := st
    exact ⟨⟨old, k e (by simp) _ he⟩, o, k it (by simp) o ei, r⟩
  item := by
    intro X hP hw hK hc i pins s σ H E I hf st hg
    subst hP hw hK
    obtain ⟨⟨old, he⟩, hst⟩ := st
    have D : Draws X.prog X.w X.A.in1 it [it] x.cps.size _ _ := Draws.strAscii (show X.A.in1.handled = none from I.ok.hd hc) it x t
    refine wpAny_pyNext_enum_itemD D he hst hg hne (by simpa using hne) fun v h' tk hv ho st' ht hsz kp => ?_
    obtain ⟨c, u, hx, rfl⟩ := hv
    refine ⟨_, rfl, wpAny_letOwnedTupleGo_enum ho fun h2 he2 hs2 => ?_⟩
    have het : s.heap.objs.size ≠ e := Nat.ne_of_gt (Heap.lt_size he)
    have ht2 : h2.get? s.heap.objs.size = some { cls := .type "tuple", data := .seq #[.int i tk, .str ⟨#[c]⟩ u] } := (hs2.2 _ het).trans ht
    have hn : H s.heap.objs.size = none := I.hok.fresh (Nat.le_refl _)
    refine ⟨.ref s.heap.objs.size, upd H s.heap.objs.size (.tup [.int i, .str ⟨#[c]⟩]), I.turnNew (fp := [e, it]) hf (fun b o hb q => ?_) (Nat.le_refl _) (show ObjOk X.prog X.w _ h2 _ (.tup _) from ⟨(by show 2 ≤ sizeLine; decide), [.int i tk, .str ⟨#[c]⟩ u], .cons ⟨_, rfl⟩ (.cons ⟨_, rfl⟩ .nil), _, ht2, rfl, _, rfl⟩), rfl, ⟨_, c, hn, hx, rfl, rfl⟩, ⟨⟨_, by exact_mod_cast he2⟩, ?_⟩, fun b hb => ?_⟩
    · have n1 : b ≠ e := fun z => hb (by simp [z])
      have n2 : b ≠ it := fun z => hb (by simp [z])
      exact (hs2.2 b n1).trans (kp b o n1 n2 q)
    · obtain ⟨o, ei, r⟩ := st'
      exact ⟨o, (hs2.2 it hne.symm).trans ei, r⟩
    · have hb' := (hf b hb).1
      rw [upd_ne (fun z => ?_)]
      · exact hb'
      · obtain ⟨o, q, _⟩ := hst
        rcases List.mem_cons.mp hb with y | y
        · exact het (z.symm.trans y)
        · have y' : b = it := by simpa using y
          exact absurd (y'.symm.trans z) (Nat.ne_of_lt (Heap.lt_size q))
  done := by
    intro X hP hw hK hc i pins s σ H E I hf st hg
    subst hP hw hK
    obtain ⟨⟨old, he⟩, hst⟩ := st
    have hg' : i = x.cps.size := hg
    subst hg'
    obtain ⟨f0, f1, f2, f3, f4, f5⟩ := hf it (by simp)
    have D : Draws X.prog X.w X.A.in1 it [it] x.cps.size _ _ := Draws.strAscii (show X.A.in1.handled = none from I.ok.hd hc) it x t
    exact wpAny_pyNext_enum_endD D he hst fun h' eb => ⟨rfl, I.turned (t' := s.toks) (fun b o hb q => eb b o hb q) f0 f1 f3 f4 f5⟩
  self := fun _ _ _ _ _ st h => by
    obtain ⟨⟨old, he⟩, _⟩ := st
    exact wpAny_pyIter_enum he h
def iEnum(ta:TA):TI:=fun σ H R=>ta σ H fun vs H1=>∃ z,vs=[.str z]/\z.cps.all (·<128)=true/\R (Ite z) H1
theorem pi_enum {X:Cx} {a:Expr} {ta:TA} {elts:List Expr} {x1:Nat} {p pos tpos:Pos} (hg:Gl X "enumerate") (hm:X.mg "enumerate"=none) (ha:PA X [a] ta) (hs:starEach [a] X.env=[(false,eval a X.env)]:=by rfl) :
  PI X (.Tuple elts x1 tpos) (.Call (.Name "enumerate" p) [a] [] pos) (iEnum ta):=by
 intro pins s σ H R I h
 refine Call_ (ld_blt I hg hm boot_enumerate (PyProof.Rows.callWith_type1 (thn (ha pos pins s σ H _ I h) fun us s1 ⟨vs,H1,I1,r1,z,e,hz,q⟩=>?_) hs rfl))
 subst e
 obtain⟨u,rfl,t,rfl⟩:=vals1 r1
 refine call_enumerate_str fun h' he hit hsz kp=>?_
 have ht:strIterType z="str_ascii_iterator":=by unfold strIterType;rw [if_pos hz]
 rw [ht] at hit
 refine wpAny_pyIter_enum he ?_
 have I2:Inv X pins σ H1 { s1 with heap:=h' }:=I1.kept (t':=s1.toks) kp
 exact⟨s1.heap.objs.size+1,[s1.heap.objs.size+1,s1.heap.objs.size],_,_,H1,rfl,I2,turn_enum _ _ (Nat.succ_ne_self _) z t,⟨⟨_,he⟩,hit⟩,
  fun b hb=>by
   have hle:s1.heap.objs.size<=b:=by
    rcases List.mem_cons.mp hb with y | y
    ·rw [y];exact Nat.le_succ _
    ·have y':b=s1.heap.objs.size:=by simpa using y
     exact Nat.le_of_eq y'.symm
   exact I1.fpOk hle (I1.hok.fresh hle),q⟩
section
variable {σ:St} {H:Hp} {D:Ends}
theorem w_forS{tl:TE}{g:TG}{tb:TS}:tFor (iStr tl) g tb D σ H=tl σ H fun x H1=>∃ z,x=.str z/\z.cps.all (·<128)=true/\ForJ (Its z) g tb D σ H1:=rfl
theorem w_forE{ta:TA}{g:TG}{tb:TS}:tFor (iEnum ta) g tb D σ H=ta σ H fun vs H1=>∃ z,vs=[.str z]/\z.cps.all (·<128)=true/\ForJ (Ite z) g tb D σ H1:=rfl
theorem w_exS{a:Str}{q:Str->Prop}:(∃ b,V.str a=.str b/\q b)=q a:=propext ⟨fun ⟨_,e,h⟩=>by cases e;exact h,fun h=>⟨a,rfl,h⟩⟩
theorem for_str{x:Str}{g:TG}{tb:TS}(Pv:Nat->St->Hp->Prop)(h0:Pv 0 σ H)
  (hs:∀ i c σ H,x.cps[i]? = some c->Pv i σ H->g (.str ⟨#[c]⟩) σ H fun σ2 H2=>tb { D with nx:=Pv (i+1),ct:=Pv (i+1),bk:=D.nx } σ2 H2) (hd:∀ σ H,Pv x.cps.size σ H->D.nx σ H):ForJ (Its x) g tb D σ H:=by
 refine⟨fun i m σ H=>m+i=x.cps.size/\Pv i σ H,⟨x.cps.size,rfl,h0⟩,?_⟩
 rintro i m σ H ⟨hm,hp⟩
 by_cases hi:i<x.cps.size
 ·refine .inr ⟨hi,Pv (i+1),fun σ' H' h=>⟨m - 1,by omega,by omega,h⟩,?_⟩
  rintro v H' ⟨rfl,c,hc,rfl⟩
  exact hs i c σ H' hc hp
 ·have e:i=x.cps.size:=by omega
  subst e
  exact .inl ⟨Nat.le_refl _,hd σ H hp⟩
theorem for_enum{x:Str}{g:TG}{tb:TS}(Pv:Nat->St->Hp->Prop)(h0:Pv 0 σ H)
  (hs:∀ i c σ H p,x.cps[i]? = some c->Pv i σ H->H p=none->g (.ref p) σ (upd H p (.tup [.int i,.str ⟨#[c]⟩])) fun σ2 H2=>tb { D with nx:=Pv (i+1),ct:=Pv (i+1),bk:=D.nx } σ2 H2) (hd:∀ σ H,Pv x.cps.size σ H->D.nx σ H):ForJ (Ite x) g tb D σ H:=by
 refine⟨fun i m σ H=>m+i=x.cps.size/\Pv i σ H,⟨x.cps.size,rfl,h0⟩,?_⟩
 rintro i m σ H ⟨hm,hp⟩
 by_cases hi:i<x.cps.size
 ·refine .inr ⟨hi,Pv (i+1),fun σ' H' h=>⟨m - 1,by omega,by omega,h⟩,?_⟩
  rintro v H' ⟨p,c,hn,hc,rfl,rfl⟩
  exact hs i c σ H p hc hp hn
 ·have e:i=x.cps.size:=by omega
  subst e
  exact .inl ⟨rfl,hd σ H hp⟩
end
end L2
namespace L2
open PySem PySem.Spec PyProof.Rows
section
variable {X:Cx}
theorem hu_1{A:Around}{k:Nat}(hr:Room k A):A.units+1<cLine:=by have:=hr.units;omega
end
end L2
namespace L2
open PySem PySem.Spec PyProof.Rows
structure QE (X:Cx) (e:Expr) (t:TE):Prop where
 h:PE X e t
structure QT (X:Cx) (e:Expr) (t:TT):Prop where
 h:PT X e t
structure QA (X:Cx) (es:List Expr) (t:TA):Prop where
 h:PA X es t
structure QS (X:Cx) (st:Stmt) (t:TS):Prop where
 h:PS X st t
structure QSs (X:Cx) (sts:List Stmt) (t:TS):Prop where
 h:PSs X sts t
structure QG (X:Cx) (e:Expr) (t:TG):Prop where
 h:PG X e t
structure QGs (X:Cx) (es:List Expr) (t:TGs):Prop where
 h:PGs X es t
structure QF (X:Cx) (es:List Expr) (t:TT):Prop where
 h:PF X es t
structure QW (X:Cx) (e:Expr) (t:TT):Prop where
 h:PW X e t
structure QO (X:Cx) (e:Option Expr) (t:TO):Prop where
 h:PO X e t
structure QI (X:Cx) (tg iter:Expr) (t:TI):Prop where
 h:PI X tg iter t
theorem QW.pt{X:Cx}{e:Expr}{t:TT}(h:QW X e t):QT X e t:=⟨h.h.pt⟩
section
variable {X:Cx}
theorem qpe_int{i j pos}:QE X (.Constant (.int i) j pos) (tC (.int i)):=⟨pe_int ⟩
end
section
variable {X:Cx}
theorem qpe_bl{b j pos}:QE X (.Constant (.bool b) j pos) (tC (.bl b)):=⟨pe_bl ⟩
end
section
variable {X:Cx}
theorem qpe_non{j pos}:QE X (.Constant .none j pos) (tC .non):=⟨pe_non ⟩
end
section
variable {X:Cx}
theorem qpe_str{x j pos}:QE X (.Constant (.str x) j pos) (tC (.str x)):=⟨pe_str ⟩
end
section
variable {X:Cx}
theorem qpe_bltn {x:Str} {v:V} {u:Value} {pos:Pos} (hg:Gl X x) (hm:X.mg x=none) (hv:bootBuiltins x=some u) (r:RelV v u) (hn:x≠"__name__":=by decide) (hd:(x==("__debug__":Str))=false:=by decide):QE X (.Name x pos) (tC v):=⟨pe_bltn hg hm hv r hn hd⟩
end
section
variable {X:Cx} {a b:Expr} {ta tb:TE} {pos:Pos}
theorem qpt_val{e:Expr}{t:TE}(h:QE X e t)(he:∀ whole,isTrue e X.env whole=(do let v <-whole;standAt e.pos;holding [v] (truthy v)):=by intro _;rfl):QT X e (tB t):=⟨pt_val h.h he⟩
end
section
variable {X:Cx} {a b:Expr} {ta tb:TE} {pos:Pos} {tA tB':TT} {rest:List Expr}
theorem qpw_and1(ha:QT X a tA):QW X (.BoolOp .And [a] pos) tA:=⟨pw_and1 ha.h⟩
end
section
variable {X:Cx} {a b:Expr} {ta tb:TE} {pos:Pos} {tA tB':TT} {rest:List Expr}
theorem qpw_or1(ha:QT X a tA):QW X (.BoolOp .Or [a] pos) tA:=⟨pw_or1 ha.h⟩
end
section
variable {X:Cx} {a b:Expr} {ta tb:TE} {pos:Pos} {tA tB':TT} {rest:List Expr}
theorem qpw_and(ha:QT X a tA)(hb:QW X (.BoolOp .And (b::rest) pos) tB'):QW X (.BoolOp .And (a::b::rest) pos) (tAnd tA tB'):=⟨pw_and ha.h hb.h⟩
end
section
variable {X:Cx} {a b:Expr} {ta tb:TE} {pos:Pos} {tA tB':TT} {rest:List Expr}
theorem qpw_or(ha:QT X a tA)(hb:QW X (.BoolOp .Or (b::rest) pos) tB'):QW X (.BoolOp .Or (a::b::rest) pos) (tOr tA tB'):=⟨pw_or ha.h hb.h⟩
end
section
variable {X:Cx} {a b:Expr} {ta tb:TE} {pos:Pos} {tA tB':TT} {rest:List Expr}
theorem qpt_not(ha:QT X a tA):QT X (.UnaryOp .Not a pos) (tNot tA):=⟨pt_not ha.h⟩
end
section
variable {X:Cx} {a b:Expr} {ta tb:TE} {pos:Pos} {tA tB':TT} {rest:List Expr}
theorem qpe_one{op}{t:TE}(h:QE X a t):QE X (.BoolOp op [a] pos) t:=⟨pe_one h.h⟩
end
section
variable {X:Cx} {a b:Expr} {ta tb:TE} {pos:Pos} {tA tB':TT} {rest:List Expr}
theorem qpe_and(ha:QE X a ta)(hb:QE X (.BoolOp .And (b::rest) pos) tb):QE X (.BoolOp .And (a::b::rest) pos) (tAndV ta tb):=⟨pe_and ha.h hb.h⟩
end
section
variable {X:Cx} {a b:Expr} {ta tb:TE} {pos:Pos} {tA tB':TT} {rest:List Expr}
theorem qpe_not(ha:QE X a ta):QE X (.UnaryOp .Not a pos) (tNotV ta):=⟨pe_not ha.h⟩
end
section
variable {X:Cx} {a b:Expr} {ta tb:TE} {pos:Pos} {tA tB':TT} {rest:List Expr}
theorem qpe_ifExp{c:Expr}(hc:QT X c tA)(ha:QE X a ta)(hb:QE X b tb):QE X (.IfExp c a b pos) (tIf tA ta tb):=⟨pe_ifExp hc.h ha.h hb.h⟩
end
section
variable {X:Cx} {st:Stmt} {rest:List Stmt} {t u:TS} {e:Expr} {te:TE} {pos:Pos}
theorem qpss_nil  : QSs X [] tNext:=⟨pss_nil ⟩
end
section
variable {X:Cx} {st:Stmt} {rest:List Stmt} {t u:TS} {e:Expr} {te:TE} {pos:Pos}
theorem qpss_cons(h1:QS X st t)(h2:QSs X rest u):QSs X (st::rest) (tSeq t u):=⟨pss_cons h1.h h2.h⟩
end
section
variable {X:Cx} {st:Stmt} {rest:List Stmt} {t u:TS} {e:Expr} {te:TE} {pos:Pos}
theorem qpss_one(h1:QS X st t):QSs X [st] t:=⟨pss_one h1.h⟩
end
section
variable {X:Cx} {st:Stmt} {rest:List Stmt} {t u:TS} {e:Expr} {te:TE} {pos:Pos}
theorem qps_expr(he:QE X e te)(hs:swapsWith e none pos.line X.env=pure false:=by rfl):QS X (.Expr e pos) (tDrop te):=⟨ps_expr he.h hs⟩
end
section
variable {X:Cx} {st:Stmt} {rest:List Stmt} {t u:TS} {e:Expr} {te:TE} {pos:Pos}
theorem qps_ret(he:QE X e te):QS X (.Return (some e) pos) (tRet te):=⟨ps_ret he.h⟩
end
section
variable {X:Cx} {st:Stmt} {rest:List Stmt} {t u:TS} {e:Expr} {te:TE} {pos:Pos}
theorem qps_if{c:Expr}{a b:List Stmt}{tc:TT}(hc:QT X c tc)(ha:QSs X a t)(hb:QSs X b u):QS X (.If c a b pos) (tIfS tc t u):=⟨ps_if hc.h ha.h hb.h⟩
end
section
variable {X:Cx} {pos:Pos}
theorem qpg_name{i:Nat}{x:Str}(hN:X.N.Nodup)(hi:X.N[i]? = some x)(hx:Loc X.env.scope x)(hf:X.fn x=true\/X.env.scope.names.lookup x=some .local:=by first | exact .inl rfl | exact .inr rfl | assumption):QG X (.Name x pos) (gName i):=⟨pg_name hN hi hx hf⟩
end
section
variable {X:Cx} {pos:Pos}
theorem qpgs_nil  : QGs X [] gNil:=⟨pgs_nil ⟩
end
section
variable {X:Cx} {pos:Pos}
theorem qpgs_cons{e:Expr}{es:List Expr}{t:TG}{u:TGs}(h1:QG X e t)(h2:QGs X es u)(hs:(assignEach (e::es) X.env).map (·.2)=assign e X.env::(assignEach es X.env).map (·.2):=by rfl):QGs X (e::es) (gCons t u):=⟨pgs_cons h1.h h2.h hs⟩
end
section
variable {X:Cx} {pos:Pos}
theorem qpg_tup{es:List Expr}{k:Nat}{t:TGs}{n:Nat}(hc:X.calm=true)(h:QGs X es t)(hn:(assignEach es X.env).length=n:=by rfl)(hst:(assignEach es X.env).findIdx? (·.1)=none:=by rfl):QG X (.Tuple es k pos) (gTup X.K n t):=⟨pg_tup hc h.h hn hst⟩
end
section
variable {X:Cx} {pos:Pos}
theorem qpg_sub{o i:Expr}{to ti:TE}{t:TSet}(ho:QE X o to)(hi:QE X i ti)(hs:PSet X t)(ha:∀ v,assign (.Subscript o i pos) X.env v=(do
   let ov <-holding [v] (eval o X.env)
   let iv <-holding [v,ov] (eval i X.env)
   standAt pos
   holding [v,ov,iv] (setItem ov iv v)
   release [v,ov,iv] []):=by intro _;rfl):QG X (.Subscript o i pos) (gSub to ti t):=⟨pg_sub ho.h hi.h hs ha⟩
end
section
variable {X:Cx} {pos:Pos}
theorem qps_asg{tg e:Expr}{te:TE}{g:TG}(he:QE X e te)(hg:QG X tg g)(hs:swapsWithSole [tg] e pos.line X.env=pure false:=by rfl)(hw:swappedStores [tg] e X.env=pure none:=by rfl)(h1:(assignEach [tg] X.env).map (·.2)=[assign tg X.env]:=by rfl):QS X (.Assign [tg] e pos) (tAsg te g):=⟨ps_asg he.h hg.h hs hw h1⟩
end
section
variable {X:Cx} {pos:Pos}
theorem qps_set{i:Nat}{x:Str}{e:Expr}{te:TE}{pos':Pos}(hN:X.N.Nodup)(hi:X.N[i]? = some x)(hx:Loc X.env.scope x)(he:QE X e te)(hs:swapsWith e (some (.Name x pos')) pos.line X.env=pure false:=by rfl)(hf:X.fn x=true\/X.env.scope.names.lookup x=some .local:=by first | exact .inl rfl | exact .inr rfl | assumption):QS X (.Assign [.Name x pos'] e pos) (tAsg te (gName i)):=⟨ps_set hN hi hx he.h hs hf⟩
end
section
variable {X:Cx} {pos:Pos}
theorem qps_aug{i:Nat}{x:Str}{e:Expr}{te:TE}{op:Operator}{ti:TIp}{pos':Pos}(hN:X.N.Nodup)(hi:X.N[i]? = some x)(hx:Loc X.env.scope x)(he:QE X e te)(ho:PIp X op ti)(hf:X.fn x=true\/X.env.scope.names.lookup x=some .local:=by first | exact .inl rfl | exact .inr rfl | assumption):QS X (.AugAssign (.Name x pos') op e pos) (tAug i te ti):=⟨ps_aug hN hi hx he.h ho hf⟩
end
section
variable {X:Cx} {pos:Pos}
theorem qps_while{c:Expr}{body:List Stmt}{tc:TT}{tb:TS}(hp:PassesOwn (model X.prog X.w) X.A X.env X.xe)(hc:QT X c tc)(hb:QSs X body tb):QS X (.While c body [] pos) (tWhile tc tb):=⟨ps_while hp hc.h hb.h⟩
end
section
variable {X:Cx} {tg:Expr}
theorem qpi_list{l:Expr}{tl:TE}(hl:QE X l tl):QI X tg l (iList X.K tl):=⟨pi_list hl.h⟩
end
section
variable {X:Cx} {tg:Expr}
theorem qpi_range1 {a:Expr} {ta:TA} {p pos:Pos} (hg:Gl X "range") (hm:X.mg "range"=none) (ha:QA X [a] ta) (hs:starEach [a] X.env=[(false,eval a X.env)]:=by rfl):QI X tg (.Call (.Name "range" p) [a] [] pos) (iRng1 ta):=⟨pi_range1 hg hm ha.h hs⟩
end
section
variable {X:Cx} {tg:Expr}
theorem qps_for{iter:Expr}{body:List Stmt}{wi:TI}{g:TG}{tb:TS}{pos:Pos}(hp:PassesOwn (model X.prog X.w) X.A X.env X.xe)(hc:X.calm=true)(hi:QI X tg iter wi)(hg:QG X tg g)(hb:QSs X body tb)(hs:∀ x,foldedSetIterable iter X.env x=pure x:=by intro _;rfl):QS X (.For tg iter body [] pos) (tFor wi g tb):=⟨ps_for hp hc hi.h hg.h hb.h hs⟩
end
section
variable {X:Cx} {a b c:Expr} {ta tb tc:TE} {pos:Pos}
theorem qpe_op{op:Operator}{r:R2}(ho:OpR X (binaryOp op) r)(ha:QE X a ta)(hb:QE X b tb):QE X (.BinOp a op b pos) (tOp r ta tb):=⟨pe_op ho ha.h hb.h⟩
end
section
variable {X:Cx} {a b c:Expr} {ta tb tc:TE} {pos:Pos}
theorem qpe_un{op:UnaryOp}{r:V->Hp->VK->Prop}(ho:UnR X (unaryOp op) r)(ha:QE X a ta):QE X (.UnaryOp op a pos) (tUn r ta):=⟨pe_un ho ha.h⟩
end
section
variable {X:Cx} {a b c:Expr} {ta tb tc:TE} {pos:Pos}
theorem qpe_cmpR{op:CmpOp}{r:R2}(ho:OpR X (compareOp op) r)(ha:QE X a ta)(hb:QE X b tb)(hm:behindInMarks op b=false):QE X (.Compare a [op] [b] pos) (tOp r ta tb):=⟨pe_cmpR ho ha.h hb.h hm⟩
end
section
variable {X:Cx} {a b c:Expr} {ta tb tc:TE} {pos:Pos}
theorem qpt_cmpR{op:CmpOp}{r:R2}(ho:OpR X (compareOp op) r)(ha:QE X a ta)(hb:QE X b tb)(hm:behindInMarks op b=false):QT X (.Compare a [op] [b] pos) (tTest (tOp r ta tb)):=⟨pt_cmpR ho ha.h hb.h hm⟩
end
section
variable {X:Cx} {a b c:Expr} {ta tb tc:TE} {pos:Pos}
theorem qpe_chain{op op':CmpOp}{r r':R2}(ho:OpR X (compareOp op) r)(ho':OpR X (compareOp op') r')(ha:QE X a ta)(hb:QE X b tb)(hc:QE X c tc)(hm:lastMarks [op,op'] [b,c]=false:=by with_unfolding_all rfl):QE X (.Compare a [op,op'] [b,c] pos) (tChain r r' ta tb tc):=⟨pe_chain ho ho' ha.h hb.h hc.h hm⟩
end
section
variable {X:Cx} {a b c:Expr} {ta tb tc:TE} {pos:Pos}
theorem qpt_truth(ha:QE X a ta)(he:∀ whole,isTrue a X.env whole=(do let v <-whole;standAt a.pos;holding [v] (truthy v))):QT X a (fun σ H Q=>ta σ H fun x H'=>∃ k,TruV X.K x H' k/\Q k H'):=⟨pt_truth ha.h he⟩
end
section
variable {X:Cx} {e:Expr} {es:List Expr} {te:TE} {t:TA} {pos:Pos}
theorem qpa_nil  : QA X [] tNil:=⟨pa_nil ⟩
end
section
variable {X:Cx} {e:Expr} {es:List Expr} {te:TE} {t:TA} {pos:Pos}
theorem qpa_cons(ha:QE X e te)(hr:QA X es t)(hs:starEach (e::es) X.env=(false,eval e X.env)::starEach es X.env:=by rfl):QA X (e::es) (tCons te t):=⟨pa_cons ha.h hr.h hs⟩
end
section
variable {X:Cx} {e:Expr} {es:List Expr} {te:TE} {t:TA} {pos:Pos}
theorem qpe_tup{x1}(h:QA X es t):QE X (.Tuple es x1 pos) (tTup t):=⟨pe_tup h.h⟩
end
section
variable {X:Cx} {e:Expr} {es:List Expr} {te:TE} {t:TA} {pos:Pos}
theorem qpe_lst(h:QA X es t):QE X (.List es pos) (tLst t):=⟨pe_lst h.h⟩
end
section
variable {X:Cx} {x:Str} {p pos:Pos} {e:Expr} {es:List Expr} {t:TA} {id T:String} {r:List V->Hp->VK->Prop}
theorem qpe_callB (hc:CallR X (.builtin id) r) (hg:Gl X x) (hm:X.mg x=none) (hv:bootBuiltins x=some (.builtin id)) (ha:QA X (e::es) t) (hn:x≠"__name__":=by decide) (hdb:(x==("__debug__":Str))=false:=by decide) (he:starEach (e::es) X.env=(false,eval e X.env)::starEach es X.env:=by rfl) (hpl:(backTo pos (starEach es X.env)).any (·.1)=false:=by rfl):QE X (.Call (.Name x p) (e::es) [] pos) (tCB r t):=⟨pe_callB hc hg hm hv ha.h hn hdb he hpl⟩
end
section
variable {X:Cx} {x:Str} {p pos:Pos} {e:Expr} {es:List Expr} {t:TA} {id T:String} {r:List V->Hp->VK->Prop}
theorem qpe_callTy (hc:CallR X (.type T) r) (hg:Gl X x) (hm:X.mg x=none) (hv:bootBuiltins x=some (.type T)) (ha:QA X (e::es) t) (hn:x≠"__name__":=by decide) (hdb:(x==("__debug__":Str))=false:=by decide) (he:starEach (e::es) X.env=(false,eval e X.env)::starEach es X.env:=by rfl) (hpl:(backTo pos (starEach es X.env)).any (·.1)=false:=by rfl):QE X (.Call (.Name x p) (e::es) [] pos) (tCB r t):=⟨pe_callTy hc hg hm hv ha.h hn hdb he hpl⟩
end
section
variable {X:Cx} {e:Expr} {te:TE} {lo hi:Option Expr} {tl th:TO} {pos p2:Pos}
theorem qpo_some(h:QE X e te):QO X (some e) (tPart te):=⟨po_some h.h⟩
end
section
variable {X:Cx} {e:Expr} {te:TE} {lo hi:Option Expr} {tl th:TO} {pos p2:Pos}
theorem qpe_slice{r:V->Option Int->Option Int->Hp->VK->Prop}(hr:SlR X r)(he:QE X e te)(hl:QO X lo tl)(hu:QO X hi th):QE X (.Subscript e (.Slice lo hi none p2) pos) (tSl r te tl th):=⟨pe_slice hr he.h hl.h hu.h⟩
end
section
variable {X:Cx} {a b:Expr} {ta tb:TE} {pos:Pos}
theorem qpe_ix{r:R2}(hr:IxR X r)(ha:QE X a ta)(hb:QE X b tb)(hs:PlainIx b):QE X (.Subscript a b pos) (tOp r ta tb):=⟨pe_ix hr ha.h hb.h hs⟩
end
section
variable {X:Cx} {a b:Expr} {ta tb:TE} {pos:Pos} {o e:Expr} {es:List Expr} {to:TE} {t:TA} {name:Str} {apos cpos:Pos} {T id:String} {r:V->List V->Hp->VK->Prop}
theorem qpe_bm0 (pa:PlainAttrs T) (slot:Slot T name id) (hty:typeOf (.builtin id)=pure (.type "method_descriptor")) (hm:MtR X id r) (ho:QE X o to) (hbase:attributeBase o name X.env (eval o X.env)=eval o X.env:=by rfl) (hline:(apos.endLine==cpos.line)=true:=by rfl):QE X (.Call (.Attribute o name apos) [] [] cpos) (tBM0 X.K T r to):=⟨pe_bm0 pa slot hty hm ho.h hbase hline⟩
end
section
variable {X:Cx} {a b:Expr} {ta tb:TE} {pos:Pos} {o e:Expr} {es:List Expr} {to:TE} {t:TA} {name:Str} {apos cpos:Pos} {T id:String} {r:V->List V->Hp->VK->Prop}
theorem qpe_bm (pa:PlainAttrs T) (slot:Slot T name id) (hty:typeOf (.builtin id)=pure (.type "method_descriptor")) (hm:MtR X id r) (ho:QE X o to) (ha:QA X (e::es) t) (hbase:attributeBase o name X.env (eval o X.env)=eval o X.env:=by rfl) (hfew:((backTo cpos (starEach (e::es) X.env)).all (fun x=>!x.1)&&(backToKw cpos (keywordEach [] X.env)).all (fun x=>x.1.isSome)
   && decide ((e::es).length+([]:List Keyword).length+(if ([]:List Keyword).isEmpty then 0 else 1)<30))=true:=by rfl) (hline:(apos.endLine==cpos.line)=true:=by rfl) (hs:starEach (e::es) X.env=(false,eval e X.env)::starEach es X.env:=by rfl) (hplain:(backTo cpos (starEach es X.env)).any (·.1)=false:=by rfl):QE X (.Call (.Attribute o name apos) (e::es) [] cpos) (tBM X.K T r to t):=⟨pe_bm pa slot hty hm ho.h ha.h hbase hfew hline hs hplain⟩
end
section
variable {X:Cx}
theorem qpv (i:Nat) {x:Str} {pos:Pos} (hN:X.N[i]? = some x:=by rfl) (hv:Vis X.env.scope x:=by first | exact Or.inl rfl | exact Or.inr (Or.inl rfl) | exact Or.inr (Or.inr rfl)) (hd:(x==("__debug__":Str))=false:=by decide) (hcd:(x==("__classdict__":Str))=false:=by decide):QE X (.Name x pos) (tVar i):=⟨pv i hN hv hd hcd⟩
end
section
variable {X:Cx}
theorem qpt_chain3{a b c d:Expr}{ta tb tc td:TE}{pos:Pos}{op op' op2:CmpOp}{r r' r2:R2}(ho:OpR X (compareOp op) r)(ho':OpR X (compareOp op') r')(ho2:OpR X (compareOp op2) r2)(ha:QE X a ta)(hb:QE X b tb)(hc:QE X c tc)(hd:QE X d td)(hm:lastMarks [op,op',op2] [b,c,d]=false:=by with_unfolding_all rfl):QT X (.Compare a [op,op',op2] [b,c,d] pos) (tTest (tChain3 r r' r2 ta tb tc td)):=⟨pt_chain3 ho ho' ho2 ha.h hb.h hc.h hd.h hm⟩
end
section
theorem qpe_globI {X:Cx} {x:Str} {i:Int} {pos:Pos} (hg:Gl X x) (hm:∃ t,X.mg x=some (.int i t)) (hd:(x==("__debug__":Str))=false:=by decide):QE X (.Name x pos) (tC (.int i)):=⟨pe_globI hg hm hd⟩
end
section
theorem qpe_callD {X:Cx} {k:Nat} {x:Str} {st:Stmt} {ps:List Str} {sp:Sp} {e:Expr} {es:List Expr} {t:TA} {p pos:Pos} (D:Def X.prog X.w X.K X.mg X.base k x st ps sp) (hr:Room k X.A) (hg:Gl X x) (ha:QA X (e::es) t) (hdb:(x==("__debug__":Str))=false:=by decide) (he:starEach (e::es) X.env=(false,eval e X.env)::starEach es X.env:=by rfl) (hpl:(backTo pos (starEach es X.env)).any (·.1)=false:=by rfl):QE X (.Call (.Name x p) (e::es) [] pos) (tCall sp [] E0 t):=⟨pe_callD D hr hg ha.h hdb he hpl⟩
end
section
theorem qpi_str{X:Cx}{tg l:Expr}{tl:TE}(hl:QE X l tl):QI X tg l (iStr tl):=⟨pi_str hl.h⟩
end
section
theorem qpi_enum {X:Cx} {a:Expr} {ta:TA} {elts:List Expr} {x1:Nat} {p pos tpos:Pos} (hg:Gl X "enumerate") (hm:X.mg "enumerate"=none) (ha:QA X [a] ta) (hs:starEach [a] X.env=[(false,eval a X.env)]:=by rfl):QI X (.Tuple elts x1 tpos) (.Call (.Name "enumerate" p) [a] [] pos) (iEnum ta):=⟨pi_enum hg hm ha.h hs⟩
end
section
theorem qpf_nil{X:Cx}:QF X [] tNoIf:=⟨pf_nil ⟩
end
section
theorem qpf_one{X:Cx}{c:Expr}{t:TT}(h:QT X c t):QF X [c] t:=⟨pf_one h.h⟩
end
section
variable {X:Cx} {pins:List (Addr×Obj)} {σ:St} {H:Hp} {s:Shared}
theorem qpe_comp{own ns:List Str}{caps:List Nat}{elt tg iter:Expr}{ifs:List Expr}{scope:Scope}{pos:Pos}{wi:TI}{g:TG}{tf:TT}{te:TE}(hc:X.calm=true)(S:CScope scope ns)(cp:Caps X scope ns caps)(hi:QI X tg iter wi)(hg:∀ C s H fp pn,QG (cxC X (own++ns) scope C s H fp pn) tg g)(ht:∀ C s H fp pn,QF (cxC X (own++ns) scope C s H fp pn) ifs tf)(he:∀ C s H fp pn,QE (cxC X (own++ns) scope C s H fp pn) elt te)(hs:∀ x,foldedSetIterable iter X.env x=pure x:=by intro _;rfl):QE X (.ListComp elt [⟨tg,iter,ifs,0⟩] scope pos) (tComp own.length caps wi g tf te):=⟨pe_comp hc S cp hi.h (fun C s H fp pn=>(hg C s H fp pn).h) (fun C s H fp pn=>(ht C s H fp pn).h) (fun C s H fp pn=>(he C s H fp pn).h) hs⟩
end
section
variable {X:Cx} {pins:List (Addr×Obj)} {σ:St} {H:Hp} {s:Shared}
theorem qps_setC{i:Nat}{x:Str}{own ns:List Str}{caps:List Nat}{elt tg iter:Expr}{ifs:List Expr}{scope:Scope}{pos pos' spos:Pos}{wi:TI}{g:TG}{tf:TT}{te:TE}(hN:X.N.Nodup)(hi:X.N[i]? = some x)(hx:Loc X.env.scope x)(hc:X.calm=true)(S:CScope scope ns)(cp:Caps X scope ns caps)(hit:QI X tg iter wi)(hg:∀ C s H fp pn,QG (cxC X (own++ns) scope C s H fp pn) tg g)(ht:∀ C s H fp pn,QF (cxC X (own++ns) scope C s H fp pn) ifs tf)(he:∀ C s H fp pn,QE (cxC X (own++ns) scope C s H fp pn) elt te)(hs:∀ x,foldedSetIterable iter X.env x=pure x:=by intro _;rfl)(hsw:swapsWith (.ListComp elt [⟨tg,iter,ifs,0⟩] scope pos) (some (.Name x pos')) spos.line X.env=pure true:=by rfl)(hf:X.fn x=true\/X.env.scope.names.lookup x=some .local:=by first | exact .inl rfl | exact .inr rfl | assumption):QS X (.Assign [.Name x pos'] (.ListComp elt [⟨tg,iter,ifs,0⟩] scope pos) spos) (tAsg (tComp own.length caps wi g tf te) (gName i)):=⟨ps_setC hN hi hx hc S cp hit.h (fun C s H fp pn=>(hg C s H fp pn).h) (fun C s H fp pn=>(ht C s H fp pn).h) (fun C s H fp pn=>(he C s H fp pn).h) hs hsw hf⟩
end
section
theorem qpss_cut{X:Cx}{st:Stmt}{rest:List Stmt}{t u:TS}(h1:QS X st t)(h2:QSs X rest u):QSs X (st::rest) (tCut t u):=⟨pss_cut h1.h h2.h⟩
end
section
variable {X:Cx} {es:List Expr} {te:TE} {t:TA}
theorem qpa_BinOp{a0:PySem.Expr}{a1:PySem.Operator}{a2:PySem.Expr}{a3:PySem.Pos}(ha:QE X (Expr.BinOp a0 a1 a2 a3) te)(hr:QA X es t):QA X ((Expr.BinOp a0 a1 a2 a3)::es) (tCons te t):=⟨pa_BinOp ha.h hr.h⟩
end
section
variable {X:Cx} {es:List Expr} {te:TE} {t:TA}
theorem qpa_ListComp{a0:PySem.Expr}{a1:List Comprehension}{a2:PySem.Scope}{a3:PySem.Pos}(ha:QE X (Expr.ListComp a0 a1 a2 a3) te)(hr:QA X es t):QA X ((Expr.ListComp a0 a1 a2 a3)::es) (tCons te t):=⟨pa_ListComp ha.h hr.h⟩
end
section
variable {X:Cx} {es:List Expr} {te:TE} {t:TA}
theorem qpa_Compare{a0:PySem.Expr}{a1:List CmpOp}{a2:List Expr}{a3:PySem.Pos}(ha:QE X (Expr.Compare a0 a1 a2 a3) te)(hr:QA X es t):QA X ((Expr.Compare a0 a1 a2 a3)::es) (tCons te t):=⟨pa_Compare ha.h hr.h⟩
end
section
variable {X:Cx} {es:List Expr} {te:TE} {t:TA}
theorem qpa_Call{a0:PySem.Expr}{a1:List Expr}{a2:List Keyword}{a3:PySem.Pos}(ha:QE X (Expr.Call a0 a1 a2 a3) te)(hr:QA X es t):QA X ((Expr.Call a0 a1 a2 a3)::es) (tCons te t):=⟨pa_Call ha.h hr.h⟩
end
section
variable {X:Cx} {es:List Expr} {te:TE} {t:TA}
theorem qpa_Constant{a0:PySem.Const}{a1:Nat}{a2:PySem.Pos}(ha:QE X (Expr.Constant a0 a1 a2) te)(hr:QA X es t):QA X ((Expr.Constant a0 a1 a2)::es) (tCons te t):=⟨pa_Constant ha.h hr.h⟩
end
section
variable {X:Cx} {es:List Expr} {te:TE} {t:TA}
theorem qpa_Subscript{a0:PySem.Expr}{a1:PySem.Expr}{a2:PySem.Pos}(ha:QE X (Expr.Subscript a0 a1 a2) te)(hr:QA X es t):QA X ((Expr.Subscript a0 a1 a2)::es) (tCons te t):=⟨pa_Subscript ha.h hr.h⟩
end
section
variable {X:Cx} {es:List Expr} {te:TE} {t:TA}
theorem qpa_Name{a0:PySem.Str}{a1:PySem.Pos}(ha:QE X (Expr.Name a0 a1) te)(hr:QA X es t):QA X ((Expr.Name a0 a1)::es) (tCons te t):=⟨pa_Name ha.h hr.h⟩
end
section
variable {X:Cx} {es:List Expr} {te:TE} {t:TA}
theorem qpa_Tuple{a0:List Expr}{a1:Nat}{a2:PySem.Pos}(ha:QE X (Expr.Tuple a0 a1 a2) te)(hr:QA X es t):QA X ((Expr.Tuple a0 a1 a2)::es) (tCons te t):=⟨pa_Tuple ha.h hr.h⟩
end
section
variable {X:Cx} {o i e value:Expr} {pos pos' tpos:Pos} {td ty tv:TE}
theorem qpe_dget(hu:X.A.units+1<cLine)(ho:QE X o td)(hi:QE X i ty)(hs:NoSl i):QE X (.Subscript o i pos) (tDGet td ty):=⟨pe_dget hu ho.h hi.h hs⟩
end
section
variable {X:Cx} {o i e value:Expr} {pos pos' tpos:Pos} {td ty tv:TE}
theorem qps_dput(hu:X.A.units+1<cLine)(ho:QE X o td)(hi:QE X i ty)(hv:QE X value tv)(hs:swapsWith value (some (.Subscript o i pos')) pos.line X.env=pure false):QS X (.Assign [.Subscript o i pos'] value pos) (sDPut td ty tv):=⟨ps_dput hu ho.h hi.h hv.h hs⟩
end
section
variable {X:Cx} {pos:Pos}
theorem qpe_dnewK  : QE X (.Dict [] [] pos) tDNewK:=⟨pe_dnewK ⟩
end
section
variable {X:Cx} {pins:List (Addr×Obj)} {σ:St} {H:Hp} {s:Shared} {a:Addr} {o:Obj} {kvs:List (List Key×V)}
theorem qpt_dnotin{k d:Expr}{ty td:TE}{pos:Pos}(hu:X.A.units+1<cLine)(hk:QE X k ty)(hd:QE X d td)(hm:behindInMarks .NotIn d=false:=by first | rfl | with_unfolding_all rfl):QT X (.Compare k [.NotIn] [d] pos) (tB (tDNotIn ty td)):=⟨pt_dnotin hu hk.h hd.h hm⟩
end
section
variable {X:Cx}
theorem qps_raise {x:Str} {C:Addr} {bmB:List Value} {B newId initId:String} {E:XK} {e:Expr} {es:List Expr} {t:TA} {np cpos pos:Pos} (R:Rais X E) (O:OwnCls x C bmB newId X.mg X.base) (F:ExcBaseFacts B newId initId bmB) (hc:X.calm=true) (hg:Gl X x) (ha:QA X (e::es) t) (hdb:(x==("__debug__":Str))=false:=by decide) (he:starEach (e::es) X.env=(false,eval e X.env)::starEach es X.env:=by rfl) (hpl:(backTo cpos (starEach es X.env)).any (·.1)=false:=by rfl):QS X (.Raise (some (.Call (.Name x np) (e::es) [] cpos)) none pos) (tRaise C E t):=⟨ps_raise R O F hc hg ha.h hdb he hpl⟩
end
section
variable {X:Cx}
theorem qps_nox{st:Stmt}{t:TS}(h:QS X.nox st t):QS X st t:=⟨ps_nox h.h⟩
end
section
variable {X:Cx}
theorem qpt_nox{e:Expr}{t:TT}(h:QT X.nox e t):QT X e t:=⟨pt_nox h.h⟩
end
section
variable {X:Cx}
theorem qpe_callX {k:Nat} {x:Str} {st:Stmt} {ps:List Str} {sp:Sp} {e:Expr} {es:List Expr} {t:TA} {p pos:Pos} (D:DefX X.prog X.w X.K X.mg X.base k x st ps sp) (hr:Room k X.A) (hg:Gl X x) (ha:QA X (e::es) t) (hdb:(x==("__debug__":Str))=false:=by decide) (he:starEach (e::es) X.env=(false,eval e X.env)::starEach es X.env:=by rfl) (hpl:(backTo pos (starEach es X.env)).any (·.1)=false:=by rfl):QE X (.Call (.Name x p) (e::es) [] pos) (tCall sp [] E0 t):=⟨pe_callX D hr hg ha.h hdb he hpl⟩
end
end L2
namespace Rm
open PySem L2 PyProof.Rows
theorem paired_imp{α β:Type}{R T:α->β->Prop}(f:∀ a b,R a b->T a b):∀ {xs:List α} {ys:List β},Paired R xs ys->Paired T xs ys
 | _,_,.nil=>.nil
 | _,_,.cons r t=>.cons (f _ _ r) (paired_imp f t)
theorem paired_get{α β:Type}{R:α->β->Prop}:∀ {xs:List α} {ys:List β},Paired R xs ys->∀ {i:Nat} {x:α},xs[i]? = some x->∃ y,ys[i]? = some y/\R x y
 | _,_,.nil,i,x,h=>by simp at h
 | _,_,.cons r t,0,x,h=>by simp at h;subst h;exact⟨_,rfl,r⟩
 | _,_,.cons r t,i+1,x,h=>paired_get t (by simpa using h)
def spCellA(K:PySem.W.Frag):Sp:=fun vs H Q _=>∃ (a:Addr) (ns:List Int) (k:Nat),vs=[.ref a,.int k]/\SqL K H a (ns.map V.int)/\∀ v:Int,Q (.int v) H
def spDigs:Sp:=fun vs H Q _=>∃ (c:Int) (n:Nat),vs=[.int c,.int n]/\n<=60/\∀ (l:Addr) (ds:List Int) (H':Hp),H l=none->Same H H'->H' l=some (.lst (ds.map V.int))->ds.length=n->Q (.ref l) H'
end Rm
namespace L2
open PySem PySem.Spec PyProof.Rows
theorem pass_def{P:Program}{w:World}{K:PySem.W.Frag}{mg:Str->Option Value}{base:Heap}{N:List Str}{qual:Str}{scope:Scope}{f:Addr}{cd:Value}{A:Around}{outer:List Env}{s0:Shared}{H0:Hp}{E:XK}:
  Passes (CXx P w) (cxOf (CXx P w) P w K mg base N qual scope f cd A outer s0 H0 E) E:=by
 intro pins σ H s e s' I hc
 generalize hX:cxOf (CXx P w) P w K mg base N qual scope f cd A outer s0 H0 E=X at I hc ⊢
 have hst:X.stack=X.env::X.outer:=by rw [<-hX];rfl
 have hfr:X.env.frame=some X.env.locals:=by rw [<-hX];rfl
 have hxe:X.xe=fun e s'=>wpAny (model X.prog X.w) X.A (leaving X.env e) (fun _ s''=>CXx X.prog X.w X.outer X.H₀ X.s₀ E e s'') (fun e' s''=>CXx X.prog X.w X.outer X.H₀ X.s₀ E e' s'') s':=by rw [<-hX];rfl
 have hex:X.ex=[]:=by rw [<-hX];rfl
 have hP:X.prog=P:=by rw [<-hX];rfl
 have hw:X.w=w:=by rw [<-hX];rfl
 have hfs:frs X.stack=X.env.locals::X.fs:=by rw [hst];unfold frs;rw [List.filterMap_cons,hfr];rfl
 clear hX
 subst hP hw
 rw [hxe]
 obtain⟨a,C,t,H',B,dO,rfl,os,bare,un,hok,f1,cov,ct,hE⟩:=hc
 refine wpAny_pres (Pres.leave (e:=a)) ct ?_
 refine wpAny_leaves_onW (base:=B) (outer:=X.outer) (L:=X.env.locals) (by rw [I.ok.frames,hst]) hfr (hst▸f1) fun h2 f4 up ct2=>?_
 have lt0:∀ b o,X.s₀.heap.get? b=some o->b≠X.env.locals:=fun b o e1=>Nat.ne_of_lt (Nat.lt_of_lt_of_le (Heap.lt_size e1) I.ok.above)
 have out:∀ b o,X.s₀.heap.get? b=some o->b∉X.fs->b∉frs X.stack:=fun b o e1 e2 z=>by
  rw [hfs] at z
  exact (List.mem_cons.mp z).elim (lt0 b o e1) e2
 have mem:∀ b,b∈X.fs->b∈frs X.stack:=fun b m=>by rw [hfs];exact List.mem_cons_of_mem _ m
 have same:∀ b o ob,B.get? b=some ob->s'.heap.get? b=some o->h2.get? b=some o:=fun b o ob e e1=>by
  have e2:=f1.1 b ob e
  rw [e1] at e2;cases e2
  exact f4.1 b o e
 have fr:∀ b o,s'.heap.get? b=some o->b∈frs X.stack->∃ sl,h2.get? b=some { o with slots:=sl }:=fun b o e m=>by
  obtain⟨_,o1,e1,nf⟩:=f1.2.2.1.mem m
  rw [e] at e1;cases e1
  exact up b o e nf
 have u:=I.base
 rw [hex] at u
 refine⟨a,C,t,H',B,dO,rfl,os.trans I.os,bare,⟨fun b o e1 e2 e3 e4=>?_,fun b o e1 e2 e3 e4=>?_,fun b o e1 e2 e4=>?_,fun b o e1 e2=>?_,fun b xs e1=>?_,fun b o v e1=>?_,fun b ps e1=>?_⟩,fun b o e1=>?_,f4,⟨fun b o e1 e2=>?_,cov.trk⟩,ct2,hE⟩
 ·have k1:=u.keep b o e1 e2 e3 e4
  have n1:=out b o e1 e3
  have k2:=un.keep b o k1 (u.free b o e1 e2 e4) n1 (by simp)
  obtain⟨ob,q⟩:=cov.old b o k1 n1
  exact same b o ob q k2
 ·obtain⟨sl,q⟩:=u.slot b o e1 e2 e3 e4
  obtain⟨sl1,q1⟩:=un.slot b _ q (u.free b o e1 e2 e4) (mem b e3) (by simp)
  obtain⟨sl2,q2⟩:=fr b _ q1 (mem b e3)
  exact⟨sl2,q2⟩
 ·obtain⟨o',q⟩:=u.there b o e1 e4
  exact un.free b o' q (u.free b o e1 e2 e4) (by simp)
 ·obtain⟨o',q⟩:=u.there b o e1 e2
  obtain⟨o2,q2⟩:=un.there b o' q (by simp)
  by_cases m:b∈frs X.stack
  ·obtain⟨sl,q'⟩:=fr b o2 q2 m
   exact⟨_,q'⟩
  ·obtain⟨ob,q'⟩:=cov.old b o' q m
   exact⟨_,f4.1 b ob q'⟩
 ·exact un.tups b xs (u.tups b xs e1)
 ·exact un.frzs b o v (u.frzs b o v e1)
 ·obtain⟨m1,q1⟩:=u.tbls b ps e1
  obtain⟨m2,q2⟩:=un.tbls b _ q1
  exact⟨m1++m2,by rw [q2,Array.append_assoc]⟩
 ·refine (hok b o e1).stay (fun c v hc q=>?_) (fun _ q=>q) fun _ _ q=>q
  obtain⟨ob,q'⟩:∃ ob,B.get? c=some ob:=by
   rcases hc with r | r
   ·rw [r];exact cov.trk b o e1
   ·exact cov.trk c _ r
  exact same c v ob q' q
 ·obtain⟨o',q⟩:=u.there b o e1 (by simp)
  exact cov.old b o' q (out b o e1 e2)
section
variable {P:Program} {w:World} {K:PySem.W.Frag} {mg:Str->Option Value} {base:Heap} {N:List Str} {qual:Str} {scope:Scope} {f:Addr} {cd:Value} {A:Around} {outer:List Env} {s0:Shared} {H0:Hp} {E:XK}
theorem qpe_callXP{k:Nat}{x:Str}{st:Stmt}{ps:List Str}{sp:Sp}{e:Expr}{es:List Expr}{t:TA}{p pos:Pos}(D:DefX P w K mg base k x st ps sp)(hr:Room k (cxOf (CXx P w) P w K mg base N qual scope f cd A outer s0 H0 E).A)(hg:Gl (cxOf (CXx P w) P w K mg base N qual scope f cd A outer s0 H0 E) x)
  (ha:QA (cxOf (CXx P w) P w K mg base N qual scope f cd A outer s0 H0 E) (e::es) t) (hdb:(x==("__debug__":Str))=false:=by decide)
  (he:starEach (e::es) (cxOf (CXx P w) P w K mg base N qual scope f cd A outer s0 H0 E).env=(false,eval e (cxOf (CXx P w) P w K mg base N qual scope f cd A outer s0 H0 E).env)::starEach es (cxOf (CXx P w) P w K mg base N qual scope f cd A outer s0 H0 E).env:=by rfl)
  (hpl:(backTo pos (starEach es (cxOf (CXx P w) P w K mg base N qual scope f cd A outer s0 H0 E).env)).any (·.1)=false:=by rfl) :
  QE (cxOf (CXx P w) P w K mg base N qual scope f cd A outer s0 H0 E) (.Call (.Name x p) (e::es) [] pos) (tCall sp [] E t):=by
 obtain⟨g,fd,F,m,b,G⟩:=D.ex
 exact⟨pe_call (X:=cxOf (CXx P w) P w K mg base N qual scope f cd A outer s0 H0 E) G hr hg m F.kp b .nil pass_def ha.h hdb he hpl⟩
end
end L2
namespace L2
open PySem
theorem w_dget2{td ty tx:TE}{σ:St}{H:Hp}{Q:VK}:tDGet2 td ty tx σ H Q=td σ H fun x H1=>∃ a,x=.ref a/\IsD H1 a/\ty σ H1 fun y H2=>tx σ H2 fun z H3=>∃ o,DGet H3 a y o/\Q (o.getD z) H3:=rfl
end L2
namespace Rm
open PySem L2 PyProof.Rows
abbrev KVs:=List (Key×V)
def Dct(kvs:KVs)(n:Nat)(L:Nat->Nat):Prop:=∀ x:Nat,x<n->valV kvs (.inl (x:Int))=some (.int (L x:Nat))
def lenD:PyData->Nat
 | .str z=>z.length
 | _=>0
def twoD(d e:PyData):Bool:=isWordD d&&(isWordD e&&decide (lenD d=lenD e))
def wdD(bs:List Bool):PyData:=.str (wd bs)
theorem wd_txt{bs:List Bool}(h:bs.length<=40):TxtOk (wdD bs):=⟨wd_ascii bs,by rw [wd_length];omega⟩
theorem wd_isW{bs:List Bool}(b:Bal bs)(h:bs.length<=40):isWordD (wdD bs)=true:=isW_wd b h
theorem two_wd{bs cs:List Bool}(b:Bal bs)(c:Bal cs)(h:bs.length<=40)(e:cs.length=bs.length):twoD (wdD bs) (wdD cs)=true:=by
 unfold twoD
 rw [wd_isW b h,wd_isW c (by omega)]
 show (true&&(true&&decide ((wd bs).length=(wd cs).length)))=true
 rw [wd_length,wd_length,e];simp
def spVetW(C:Addr):Sp:=fun vs H Q E=>∃ x y d e,vs=[x,y]/\Dat H x d/\TxtOk d/\Dat H y e/\TxtOk e/\((twoD d e=true/\Q (.bl true) H)\/(twoD d e=false/\E (.ref C) none H))
def spPartners:Sp:=fun vs H Q _=>∃ bs,vs=[.str (wd bs)]/\Bal bs/\bs.length<=40/\∀ d kvs H',H d=none->Same H H'->H' d=some (.dK kvs)->Dct kvs bs.length (mtF bs)->Q (.ref d) H'
theorem small_nodup{n:Nat}{l:List Nat}(h:l.Nodup)(k:∀ x∈l,x<n):l.length<=n:=by
 refine Nat.le_of_not_lt fun hlt=>?_
 have:=(perm_of_sub h (m:=List.range n) (fun x hx=>List.mem_range.mpr (k x hx)) (by simp;omega)).length_eq
 simp at this
 omega
def itF(L R:Nat->Nat)(e:Nat):Nat->Nat
 | 0=>e
 | i+1=>R (L (itF L R e i))
def rdL(L R:Nat->Nat)(e:Nat):Nat->List Nat
 | 0=>[]
 | i+1=>rdL L R e i++[itF L R e i]++[L (itF L R e i)]
theorem rd_mem{L R:Nat->Nat}{e x:Nat}:∀ {i:Nat},x∈rdL L R e i<->∃ j,j<i/\(x=itF L R e j\/x=L (itF L R e j))
 | 0=>by simp [rdL]
 | i+1=>by
  rw [rdL,List.mem_append,List.mem_append,rd_mem,List.mem_singleton,List.mem_singleton]
  constructor
  ·rintro ((⟨j,hj,h⟩ | h) | h)
   ·exact⟨j,by omega,h⟩
   ·exact⟨i,by omega,.inl h⟩
   ·exact⟨i,by omega,.inr h⟩
  ·rintro⟨j,hj,h⟩
   by_cases e:j=i
   ·subst e;exact h.elim (fun h=>.inl (.inr h)) .inr
   ·exact .inl (.inl ⟨j,by omega,h⟩)
theorem rd_len{L R:Nat->Nat}{e:Nat}:∀ i,(rdL L R e i).length=2 * i
 | 0=>rfl
 | i+1=>by rw [rdL,List.length_append,List.length_append,rd_len i];simp;omega
theorem it_lt{n:Nat}{L R:Nat->Nat}{e:Nat}(PL:Prt n L)(PR:Prt n R)(h:e<n):∀ i,itF L R e i<n
 | 0=>h
 | i+1=>PR.lt _ (PL.lt _ (it_lt PL PR h i))
def Inj(L R:Nat->Nat)(e i:Nat):Prop:=∀ j k,j<i->k<i->itF L R e j=itF L R e k->j=k
theorem Inj.next{n:Nat}{L R:Nat->Nat}{e i:Nat}(PL:Prt n L)(PR:Prt n R)(h:e<n)(J:Inj L R e i)(hc:i=0\/itF L R e i≠e):Inj L R e (i+1):=by
 have back:∀ j,0<j->j<i->itF L R e i=itF L R e j->False:=fun j h0 hj q=>by
  obtain⟨j',rfl⟩:∃ j',j=j'+1:=⟨j - 1,by omega⟩
  obtain⟨i',rfl⟩:∃ i',i=i'+1:=⟨i - 1,by omega⟩
  have l1:=it_lt (R:=R) PL PR h i'
  have l2:=it_lt (R:=R) PL PR h j'
  have q':R (L (itF L R e i'))=R (L (itF L R e j')):=q
  have q2:=congrArg R q'
  rw [PR.inv _ (PL.lt _ l1),PR.inv _ (PL.lt _ l2)] at q2
  have q3:=congrArg L q2
  rw [PL.inv _ l1,PL.inv _ l2] at q3
  have:=J i' j' (by omega) (by omega) q3
  omega
 have top:∀ j,j<i->itF L R e i=itF L R e j->False:=fun j hj q=>by
  by_cases z:j=0
  ·subst z
   rcases hc with c | c
   ·omega
   ·exact c q
  ·exact back j (by omega) hj q
 intro j k hj hk q
 by_cases ej:j=i<;>by_cases ek:k=i
 ·omega
 ·subst ej;exact (top k (by omega) q).elim
 ·subst ek;exact (top j (by omega) q.symm).elim
 ·exact J j k (by omega) (by omega) q
theorem Inj.le{n:Nat}{L R:Nat->Nat}{e i:Nat}(PL:Prt n L)(PR:Prt n R)(h:e<n)(J:Inj L R e i):i<=n:=by
 have nd:((List.range i).map (itF L R e)).Nodup:=by
  rw [List.Nodup,List.pairwise_map]
  refine (List.Pairwise.and_mem.mp (List.nodup_range (n:=i))).imp fun {a b} hab q=>?_
  exact hab.2.2 (J a b (List.mem_range.mp hab.1) (List.mem_range.mp hab.2.1) q)
 have:=small_nodup nd fun x hx=>by
  obtain⟨j,_,rfl⟩:=List.mem_map.mp hx
  exact it_lt PL PR h j
 simpa using this
structure Rnd (n:Nat) (L R:Nat->Nat) (e:Nat) (r:List Nat):Prop where
 head:e∈r
 inn:∀ x∈r,x<n/\L x∈r/\R x∈r
 one:∀ f:Nat->Int,(∀ x,x<n->f (L x)=f x/\f (R x)=f x)->∀ x∈r,f x=f e
 len:r.length<=80
 per:∃ i,r=rdL L R e i/\0<i/\Inj L R e i/\itF L R e i=e
theorem rnd_of{n:Nat}{L R:Nat->Nat}{e i:Nat}(PL:Prt n L)(PR:Prt n R)(h:e<n)(J:Inj L R e i)(n40:n<=40)(h0:0<i)(hc:itF L R e i=e):Rnd n L R e (rdL L R e i):=by
 have lt:=fun j=>it_lt (R:=R) PL PR h j
 refine⟨rd_mem.mpr ⟨0,h0,.inl rfl⟩,fun x hx=>?_,fun f hf x hx=>?_,by rw [rd_len];have:=J.le PL PR h;omega,i,rfl,h0,J,hc⟩
 ·obtain⟨j,hj,e1⟩:=rd_mem.mp hx
  have nxt:R (L (itF L R e j))∈rdL L R e i:=by
   by_cases c:j+1<i
   ·exact rd_mem.mpr ⟨j+1,c,.inl rfl⟩
   ·have:j+1=i:=by omega
    have q:itF L R e (j+1)=e:=by rw [this];exact hc
    exact rd_mem.mpr ⟨0,h0,.inl q⟩
  rcases e1 with rfl | rfl
  ·refine⟨lt j,rd_mem.mpr ⟨j,hj,.inr rfl⟩,?_⟩
   by_cases z:j=0
   ·subst z
    obtain⟨i',rfl⟩:∃ i',i=i'+1:=⟨i - 1,by omega⟩
    have q:R (L (itF L R e i'))=e:=hc
    refine rd_mem.mpr ⟨i',by omega,.inr ?_⟩
    show R e=_
    have q2:=congrArg R q
    rw [PR.inv _ (PL.lt _ (lt i'))] at q2
    exact q2.symm
   ·obtain⟨j',rfl⟩:∃ j',j=j'+1:=⟨j - 1,by omega⟩
    refine rd_mem.mpr ⟨j',by omega,.inr ?_⟩
    show R (R (L (itF L R e j')))=_
    rw [PR.inv _ (PL.lt _ (lt j'))]
  ·refine⟨PL.lt _ (lt j),rd_mem.mpr ⟨j,hj,.inl (PL.inv _ (lt j))⟩,nxt⟩
 ·have base:∀ j,f (itF L R e j)=f e:=by
   intro j
   induction j with
   | zero=>rfl
   | succ j ih=>
    show f (R (L (itF L R e j)))=f e
    rw [(hf _ (PL.lt _ (lt j))).2,(hf _ (lt j)).1,ih]
  obtain⟨j,hj,rfl | rfl⟩:=rd_mem.mp hx
  ·exact base j
  ·rw [(hf _ (lt j)).1];exact base j
def natI(r:List Nat):List V:=r.map fun x:Nat=>V.int x
def spRound:Sp:=fun vs H Q _=>∃ (e:Nat) (d1 d2:Addr) (k1 k2:KVs) (n:Nat) (L R:Nat->Nat),vs=[.int e,.ref d1,.ref d2]/\H d1=some (.dK k1)/\H d2=some (.dK k2)/\Dct k1 n L/\Dct k2 n R/\Prt n L/\Prt n R/\n<=40/\e<n ∧
 ∀ l r H',H l=none->Same H H'->H' l=some (.lst (natI r))->Rnd n L R e r->Q (.ref l) H'
structure RIn (n:Nat) (L R:Nat->Nat) (i:Nat) (rs:List (List Nat)) (met:Nat->Prop):Prop where
 rn:Rnds n L R rs
 mt:∀ x,met x<->∃ r∈rs,x∈r
 upto:∀ x,x<i->met x
 len:rs.length<=i
theorem RIn.start{n:Nat}{L R:Nat->Nat}:RIn n L R 0 [] (fun _=>False):=⟨⟨(fun r h=>nomatch h),(fun f _ r h=>nomatch h),.nil,(fun r h=>nomatch h)⟩,fun x=>by simp,fun x h=>by omega,Nat.le_refl _⟩
theorem RIn.skip{n:Nat}{L R:Nat->Nat}{i:Nat}{rs:List (List Nat)}{met:Nat->Prop}(h:RIn n L R i rs met)(hm:met i):RIn n L R (i+1) rs met:=
 ⟨h.rn,h.mt,fun x hx=>by
  by_cases e:x=i
  ·rw [e];exact hm
  ·exact h.upto x (by omega),by have:=h.len;omega⟩
theorem RIn.add{n:Nat}{L R:Nat->Nat}{i:Nat}{rs:List (List Nat)}{met:Nat->Prop}{r:List Nat}(h:RIn n L R i rs met)(PL:Prt n L)(PR:Prt n R)(hm:¬ met i)(X:Rnd n L R i r):RIn n L R (i+1) (rs++[r]) (fun x=>met x\/x∈r):=by
 have ap:∀ s∈rs,∀ x∈s,x∉r:=fun s hs x hx hr=>by
  have open_:∀ y,y<n->(y∈s<->L y∈s)/\(y∈s<->R y∈s):=fun y hy=>by
   refine⟨⟨fun z=>(h.rn.inn s hs y z).2.1,fun z=>?_⟩,⟨fun z=>(h.rn.inn s hs y z).2.2,fun z=>?_⟩⟩
   ·have:=(h.rn.inn s hs _ z).2.1;rwa [PL.inv y hy] at this
   ·have:=(h.rn.inn s hs _ z).2.2;rwa [PR.inv y hy] at this
  have q:=X.one (fun y=>if y∈s then 1 else 0) (fun y hy=>by
   obtain⟨a,b⟩:=open_ y hy
   constructor
   ·by_cases c:y∈s
    ·simp [c,a.mp c]
    ·have:L y∉s:=fun z=>c (a.mpr z)
     simp [c,this]
   ·by_cases c:y∈s
    ·simp [c,b.mp c]
    ·have:R y∉s:=fun z=>c (b.mpr z)
     simp [c,this]) x hr
  have:i∈s:=by
   by_cases c:i∈s
   ·exact c
   ·simp [hx,c] at q
  exact hm ((h.mt i).mpr ⟨s,hs,this⟩)
 refine⟨⟨fun s hs=>?_,fun f hf s hs x hx y hy=>?_,?_,fun s hs=>?_⟩,fun x=>?_,fun x hx=>?_,by rw [List.length_append];have:=h.len;simp;omega⟩
 ·rcases List.mem_append.mp hs with hs | hs
  ·exact h.rn.inn s hs
  ·rw [List.mem_singleton] at hs;subst hs;exact X.inn
 ·rcases List.mem_append.mp hs with hs | hs
  ·exact h.rn.one f hf s hs x hx y hy
  ·rw [List.mem_singleton] at hs;subst hs;rw [X.one f hf x hx,X.one f hf y hy]
 ·rw [List.pairwise_append]
  refine⟨h.rn.apart,List.pairwise_singleton _ _,fun s hs t ht=>?_⟩
  rw [List.mem_singleton] at ht;subst ht
  exact ap s hs
 ·rcases List.mem_append.mp hs with hs | hs
  ·exact h.rn.ne s hs
  ·rw [List.mem_singleton] at hs;subst hs
   intro e;have:=X.head;rw [e] at this;cases this
 ·constructor
  ·rintro (z | z)
   ·obtain⟨s,hs,hx⟩:=(h.mt x).mp z
    exact⟨s,List.mem_append_left _ hs,hx⟩
   ·exact⟨r,by simp,z⟩
  ·rintro⟨s,hs,hx⟩
   rcases List.mem_append.mp hs with hs | hs
   ·exact .inl ((h.mt x).mpr ⟨s,hs,hx⟩)
   ·rw [List.mem_singleton] at hs;subst hs;exact .inr hx
 ·by_cases e:x=i
  ·rw [e];exact .inr X.head
  ·exact .inl (h.upto x (by omega))
structure TwoW (bs cs:List Bool):Prop where
 bal:Bal bs
 balR:Bal cs
 len:bs.length<=40
 eq:cs.length=bs.length
def spRoundsX(C:Addr):Sp:=fun vs H Q E=>∃ x y d e,vs=[x,y]/\Dat H x d/\TxtOk d/\Dat H y e/\TxtOk e ∧
 ((∃ bs cs,d=wdD bs/\e=wdD cs/\TwoW bs cs/\∀ l ws rs H',H l=none->Same H H'->H' l=some (.lst ws)->ws.length=rs.length->RIn bs.length (mtF bs) (mtF cs) bs.length rs (fun x=>∃ r∈rs,x∈r)->Q (.ref l) H')\/(twoD d e=false/\E (.ref C) none H))
def spClosX(C:Addr):Sp:=fun vs H Q E=>∃ x y d e,vs=[x,y]/\Dat H x d/\TxtOk d/\Dat H y e/\TxtOk e ∧
 ((∃ bs cs ms,d=wdD bs/\e=wdD cs/\TwoW bs cs/\Mates cs cs.length ms/\∀ l H',H l=none->Same H H'->H' l=some (.lst ((closC (lab0 bs.length (mtF bs)) ms).1.map V.bl))->Q (.ref l) H')\/(twoD d e=false/\E (.ref C) none H))
def spWordE:Sp:=fun vs H Q _=>∃ (c:Int) (m:Nat),vs=[.int c,.int ((2 * m:Nat):Int)]/\m<=20/\∀ bs H',Bal bs->bs.length=2 * m->Same H H'->Q (.str (wd bs)) H'
end Rm
namespace L2
open PySem PySem.Spec PyProof.Rows
def rSlS:V->Option Int->Option Int->Hp->VK->Prop:=fun x lo hi H Q=>∃ z,x=.str z/\z.length<=sizeLine/\Q (.str (Txt.slice z lo hi)) H
section
variable {X:Cx}
theorem w_slS{z:Str}{lo hi:Option Int}{H:Hp}{Q:VK}:rSlS (.str z) lo hi H Q=(z.length<=sizeLine/\Q (.str (Txt.slice z lo hi)) H):=
 propext ⟨fun ⟨_,e,h⟩=>by cases e;exact h,fun h=>⟨z,rfl,h⟩⟩
end
end L2
namespace Rm
open PySem L2
def wo(H:Hp)(m:Addr):Hp:=fun b=>if b=m then none else H b
theorem wo_same(H:Hp)(m:Addr):Same (wo H m) H:=fun b o e=>by
 unfold wo at e
 by_cases h:b=m
 ·rw [if_pos h] at e;cases e
 ·rw [if_neg h] at e;exact e
theorem wo_new{H:Hp}{m t:Addr}{o:HO}(h:H t=none):Same (wo H m) (wo (upd H t o) m):=fun b u e=>by
 have e':=wo_same H m b u e
 unfold wo at e ⊢
 by_cases hb:b=m
 ·rw [if_pos hb] at e;cases e
 ·rw [if_neg hb,upd_ne (ne_of_none e' h)];exact e'
theorem wo_at{H:Hp}{m t:Addr}{u:HO}(h:t≠m)(e:H t=some u):wo H m t=some u:=by unfold wo;rw [if_neg h];exact e
end Rm
namespace Rm
open PySem L2
structure View where
 φ:Hp->Hp
 ok:Hp->Prop
 new:∀ {H t o},ok H->H t=none->ok (upd H t o)/\Same (φ H) (φ (upd H t o))/\φ (upd H t o) t=some o
def View.all:View:=⟨id,fun _=>True,fun _ h=>⟨trivial,(Same.refl _).new h,upd_same⟩⟩
def View.but(m:Addr):View:=⟨fun H=>wo H m,fun H=>∃ o,H m=some o,fun {H t o} ⟨u,hu⟩ h=>⟨⟨u,by rw [upd_ne (ne_of_none hu h)];exact hu⟩,wo_new h,wo_at (ne_of_none hu h).symm upd_same⟩⟩
end Rm
namespace Rm
open PySem L2 PyProof.Rows
theorem true_rounds{bs cs:List Bool}{ms:List (Nat×Nat)}{rs:List (List Nat)}(T:TwoW bs cs)(M:Mates cs cs.length ms)(X:RIn bs.length (mtF bs) (mtF cs) bs.length rs (fun x=>∃ r∈rs,x∈r)):((closC (lab0 bs.length (mtF bs)) ms).1.countP (·=true))=rs.length:=by
 have PL:=mtF_prt T.bal
 have hin:∀ p∈ms,p.1<bs.length/\p.2<bs.length:=fun p hp=>by
  have h:=(M.mate p hp).1
  have h1:=h.lt
  have h2:=h.ml
  have:=T.eq
  omega
 obtain⟨k,hk,c0⟩:=lab0_cnt T.bal
 obtain⟨lb,j,cj,ej⟩:=closC_cnt PL (Lab.start PL) c0 ms hin
 have cr:=rounds_cnt X.rn (fun x hx=>X.upto x hx) lb (fun p hp=>⟨mtF_of (.inl (M.mate p hp).1),mtF_of (.inr (M.mate p hp).1)⟩) (fun x hx=>by
  rcases mtF_pr T.balR (x:=x) (by rw [T.eq];exact hx) with hm | hm
  ·obtain⟨m,hmm⟩:=M.all x (by rw [T.eq];exact hx) hm.op
   exact⟨_,hmm,.inl rfl⟩
  ·have h1:=Nat.lt_trans hm.lt hm.ml
   obtain⟨m,hmm⟩:=M.all _ h1 hm.op
   have e:m=x:=(M.mate _ hmm).1.uniq hm
   exact⟨_,hmm,.inr e.symm⟩)
 have e1:=cj.uniq cr
 have e2:=M.count T.balR
 have e3:(closC (lab0 bs.length (mtF bs)) ms).1.length=ms.length:=closC_len
 have e4:=T.eq
 have e5:∀ ts:List Bool,ts.countP (·=true)+ts.countP (! ·)=ts.length:=by
  intro ts
  induction ts with
  | nil=>rfl
  | cons b ts ih=>cases b<;>simp [List.countP_cons] at ih ⊢<;>omega
 have:=e5 (closC (lab0 bs.length (mtF bs)) ms).1
 omega
end Rm
namespace L2
open PySem PySem.Spec PyProof.Rows
def ItlH(K:PySem.W.Frag)(a hx:Addr):It:=
 ⟨fun i H=>∃ xs x,SqL K H a xs/\xs[i]? = some x,fun i H x H'=>H'=H/\∀ xs,SqL K H a xs->xs[i]? = some x,fun i H=>(∃ xs,SqL K H a xs/\xs.length<=i)/\∃ C dO,H hx=some (excD dO C hx)⟩
section
variable {X:Cx} {pins:List (Addr×Obj)} {σ:St} {H:Hp} {s:Shared}
def tCompH(hx:Addr)(K:PySem.W.Frag)(k:Nat)(caps:List Nat)(tl:TE)(g:TG)(tf:TT)(te:TE):TE:=fun σ H Q=>tl σ H fun x H1=>∃ a,x=.ref a/\(∃ xs,SqL K H1 a xs)/\CompJ (ItlH K a hx) g tf te Q (initC k caps σ) H1
theorem w_compH{hx:Addr}{K:PySem.W.Frag}{k:Nat}{caps:List Nat}{tl:TE}{g:TG}{tf:TT}{te:TE}{σ:St}{H:Hp}{Q:VK}:tCompH hx K k caps tl g tf te σ H Q=tl σ H fun x H1=>∃ a,x=.ref a/\(∃ xs,SqL K H1 a xs)/\CompJ (ItlH K a hx) g tf te Q (initC k caps σ) H1:=rfl
end
end L2
namespace Rm
open PySem L2 PyProof.Rows
structure Per (L R:Nat->Nat) (e i:Nat):Prop where
 pos:0<i
 inj:Inj L R e i
 back:itF L R e i=e
theorem per_ex{n:Nat}{L R:Nat->Nat}{e:Nat}(PL:Prt n L)(PR:Prt n R)(h:e<n):∃ i,Per L R e i:=by
 have go:∀ f i,Inj L R e i->n - i<f->∃ i,Per L R e i:=by
  intro f
  induction f with
  | zero=>intro i _ hf;omega
  | succ f ih=>
   intro i J hf
   by_cases hc:i=0\/itF L R e i≠e
   ·have J2:=J.next PL PR h hc
    have:=J2.le PL PR h
    exact ih (i+1) J2 (by omega)
   ·have h1:i≠0:=fun z=>hc (.inl z)
    have h2:itF L R e i=e:=Classical.not_not.mp fun z=>hc (.inr z)
    exact⟨i,by omega,J,h2⟩
 exact go _ 0 (fun j k hj=>by omega) (Nat.lt_succ_self _)
open Classical in
noncomputable def perF (L R:Nat->Nat) (e:Nat):Nat:=if h:∃ i,Per L R e i then h.choose else 0
noncomputable def rdF (L R:Nat->Nat) (e:Nat):List Nat:=rdL L R e (perF L R e)
open Classical in
noncomputable def rsF (L R:Nat->Nat):Nat->List (List Nat)
 | 0=>[]
 | i+1=>if ∃ r∈rsF L R i,i∈r then rsF L R i else rsF L R i++[rdF L R i]
end Rm
namespace Rm
open PySem L2 PyProof.Rows
def dK(G:Nat->Bool)(bs:List Bool):Nat->Int
 | 0=>0
 | k+1=>if G k then dK G bs k else dK G bs k+((bs[k]?).toList.map dl).sum
end Rm
namespace L2
open PySem PySem.Spec PyProof.Rows
def rIndex:V->List V->Hp->VK->Prop:=fun x vs H Q=>∃ (l:Addr) (ks:List Int) (z:Int) (j:Nat),x=.ref l/\vs=[.int z]/\H l=some (.lst (ks.map V.int))/\ks.length<=1000/\ks[j]? = some z/\(∀ m,m<j->ks[m]?≠some z)/\Q (.int j) H
theorem w_compE{k:Nat}{caps:List Nat}{ta:TA}{g:TG}{tf:TT}{te:TE}{σ:St}{H:Hp}{Q:VK}:tComp k caps (iEnum ta) g tf te σ H Q=ta σ H fun vs H1=>∃ z,vs=[.str z]/\z.cps.all (·<128)=true/\CompJ (Ite z) g tf te Q (initC k caps σ) H1:=rfl
theorem w_index{l:Addr}{z:Int}{H:Hp}{Q:VK}:rIndex (.ref l) [.int z] H Q=∃ (ks:List Int) (j:Nat),H l=some (.lst (ks.map V.int))/\ks.length<=1000/\ks[j]? = some z/\(∀ m,m<j->ks[m]?≠some z)/\Q (.int j) H:=
 propext ⟨fun ⟨_,ks,_,j,e,e',h⟩=>by cases e;cases e';exact⟨ks,j,h⟩,fun ⟨ks,j,h⟩=>⟨l,ks,z,j,rfl,rfl,h⟩⟩
end L2
namespace Rm
open PySem L2 PyProof.Rows
def belD(d:PyData)(n:Nat):Bool:=wholeD d&&(decide (0<=intOf d)&&decide (intOf d<n))
def spBelow:Sp:=fun vs H Q _=>∃ v d n,vs=[v,.int ((n:Nat):Int)]/\Dat H v d/\Q (.bl (belD d n)) H
noncomputable def rsW (bs cs:List Bool):List (List Nat):=rsF (mtF bs) (mtF cs) bs.length
end Rm
namespace Rm
open PySem L2
structure Fill (ps:List Bw):Prop where
 lt:∀ p∈ps,p.1<p.2
 perm:(endsZ ps).Perm (rngZ 0 (2 * ps.length))
theorem mem_rng0{x:Int}{n:Nat}:x∈rngZ 0 n<->0<=x/\x<n:=by
 unfold rngZ
 rw [List.mem_map]
 constructor
 ·rintro⟨i,hi,rfl⟩
  have:=List.mem_range.mp hi
  omega
 ·rintro⟨h1,h2⟩
  exact⟨x.toNat,List.mem_range.mpr (by omega),by omega⟩
theorem rng0_nodup(n:Nat):(rngZ 0 n).Nodup:=by
 unfold rngZ List.Nodup
 rw [List.pairwise_map]
 exact (List.nodup_range (n:=n)).imp fun h e=>h (by omega)
theorem Fill.mem{ps:List Bw}(F:Fill ps){p:Bw}(h:p∈ps):0<=p.1/\p.1<p.2/\p.2<2 * ps.length:=by
 have h1:p.1∈endsZ ps:=List.mem_append_left _ (List.mem_map.mpr ⟨p,h,rfl⟩)
 have h2:p.2∈endsZ ps:=List.mem_append_right _ (List.mem_map.mpr ⟨p,h,rfl⟩)
 have h1:=mem_rng0.mp (F.perm.mem_iff.mp h1)
 have h2:=mem_rng0.mp (F.perm.mem_iff.mp h2)
 have:=F.lt p h
 omega
def at1(i:Nat)(p:Bw):Bool:=decide (p.1=(i:Int))
def at2(i:Nat)(p:Bw):Bool:=decide (p.2=(i:Int))
def covB(i:Nat)(p:Bw):Bool:=decide (p.1<(i:Int))&&decide ((i:Int)<=p.2)
theorem count_one{a:Int}:∀ {l:List Int},l.Nodup->a∈l->l.count a=1
 | b::l,nd,h=>by
  obtain⟨n1,n2⟩:=List.nodup_cons.mp nd
  rw [List.count_cons]
  by_cases e:b=a
  ·subst e
   rw [List.count_eq_zero.mpr n1];simp
  ·have hm:a∈l:=by
    rcases List.mem_cons.mp h with z | z
    ·exact absurd z.symm e
    ·exact z
   rw [count_one n2 hm];simp [e]
theorem Fill.one{ps:List Bw}(F:Fill ps){i:Nat}(h:i<2 * ps.length):ps.countP (at1 i)+ps.countP (at2 i)=1:=by
 have h1:(endsZ ps).count (i:Int)=1:=by
  rw [F.perm.count_eq]
  exact count_one (rng0_nodup _) (mem_rng0.mpr (by omega))
 unfold endsZ at h1
 simp only [List.count_eq_countP,List.countP_append,List.countP_map] at h1
 have e1:ps.countP ((fun x=>x==(i:Int))∘fun p:Bw=>p.1)=ps.countP (at1 i):=List.countP_congr fun p _=>by simp [at1]
 have e2:ps.countP ((fun x=>x==(i:Int))∘fun p:Bw=>p.2)=ps.countP (at2 i):=List.countP_congr fun p _=>by simp [at2]
 rw [e1,e2] at h1
 exact h1
theorem cov_one{a b k:Int}(h:a<b):(if a<k+1/\k+1<=b then 1 else 0)+(if b=k then 1 else 0)=(if a<k/\k<=b then 1 else 0)+(if a=k then (1:Nat) else 0):=by
 by_cases h1:a=k
 ·rw [if_pos (show a<k+1/\k+1<=b by omega),if_neg (show ¬ b=k by omega),if_neg (show ¬ (a<k/\k<=b) by omega),if_pos h1]
 ·by_cases h2:b=k
  ·rw [if_neg (show ¬ (a<k+1/\k+1<=b) by omega),if_pos h2,if_pos (show a<k/\k<=b by omega),if_neg h1]
  ·rw [if_neg h1,if_neg h2]
   by_cases h3:a<k/\k<=b
   ·rw [if_pos h3,if_pos (show a<k+1/\k+1<=b by omega)]
   ·rw [if_neg h3,if_neg (show ¬ (a<k+1/\k+1<=b) by omega)]
theorem cov_step(i:Nat):∀ {ps:List Bw},(∀ p∈ps,p.1<p.2)->ps.countP (covB (i+1))+ps.countP (at2 i)=ps.countP (covB i)+ps.countP (at1 i)
 | [],_=>rfl
 | p::ps,h=>by
  have ih:=cov_step i (ps:=ps) fun q hq=>h q (List.mem_cons_of_mem _ hq)
  have e:=cov_one (k:=(i:Int)) (h p List.mem_cons_self)
  have e':(if covB (i+1) p=true then 1 else 0)+(if at2 i p=true then 1 else 0)=(if covB i p=true then 1 else 0)+(if at1 i p=true then 1 else 0):=by
   simp only [covB,at1,at2,Bool.and_eq_true,decide_eq_true_eq,Int.natCast_add,Int.natCast_one]
   exact e
  simp only [List.countP_cons]
  generalize (if covB (i+1) p=true then 1 else 0)=x1 at e' ⊢
  generalize (if at2 i p=true then 1 else 0)=x2 at e' ⊢
  generalize (if covB i p=true then 1 else 0)=x3 at e' ⊢
  generalize (if at1 i p=true then 1 else 0)=x4 at e' ⊢
  clear e h
  omega
theorem wordB_at{ps:List Bw}{i:Nat}(h:i<2 * ps.length):(wordB ps)[i]? = some (decide ((i:Int)∈ps.map (·.1))):=by simp [wordB,h]
theorem wordB_len(ps:List Bw):(wordB ps).length=2 * ps.length:=by simp [wordB]
theorem first_iff{ps:List Bw}{i:Nat}:(i:Int)∈ps.map (·.1)<->0<ps.countP (at1 i):=by
 rw [List.countP_pos_iff,List.mem_map]
 constructor
 ·rintro⟨p,hp,e⟩;exact⟨p,hp,decide_eq_true e⟩
 ·rintro⟨p,hp,e⟩;exact⟨p,hp,of_decide_eq_true e⟩
theorem Fill.D{ps:List Bw}(F:Fill ps):∀ i,i<=2 * ps.length->D (wordB ps) i=ps.countP (covB i)
 | 0,_=>by
  rw [D_zero]
  have:ps.countP (covB 0)=0:=List.countP_eq_zero.mpr fun p hp=>by
   have:=(F.mem hp).1
   simp only [covB,Bool.and_eq_true,decide_eq_true_eq];omega
  rw [this];rfl
 | i+1,h=>by
  have ih:=F.D i (by omega)
  have st:=cov_step i F.lt
  have one:=F.one (i:=i) (by omega)
  rw [D_succ (wordB_at (by omega)),ih]
  by_cases e:(i:Int)∈ps.map (·.1)
  ·rw [decide_eq_true e]
   have:=first_iff.mp e
   simp only [dl,if_true];omega
  ·rw [decide_eq_false e]
   have:¬ 0<ps.countP (at1 i):=fun z=>e (first_iff.mpr z)
   simp only [dl,Bool.false_eq_true,if_false];omega
theorem Fill.bal{ps:List Bw}(F:Fill ps):Bal (wordB ps):=by
 refine⟨fun i hi=>?_,?_⟩
 ·rw [wordB_len] at hi
  rw [F.D i hi];omega
 ·rw [wordB_len,F.D _ (Nat.le_refl _)]
  have:ps.countP (covB (2 * ps.length))=0:=List.countP_eq_zero.mpr fun p hp=>by
   have:=(F.mem hp).2.2
   simp only [covB,Bool.and_eq_true,decide_eq_true_eq];omega
  rw [this];rfl
theorem countP_lt{α:Type}{P Q:α->Bool}{l:List α}(h:∀ x∈l,P x=true->Q x=true){a:α}(ha:a∈l)(hq:Q a=true)(hp:P a=false):l.countP P<l.countP Q:=by
 obtain⟨l1,l2,rfl⟩:=List.append_of_mem ha
 rw [List.countP_append,List.countP_append,List.countP_cons,List.countP_cons,if_pos hq,if_neg (by rw [hp];exact Bool.false_ne_true)]
 have h1:=List.countP_mono_left (l:=l1) fun x hx=>h x (List.mem_append_left _ hx)
 have h2:=List.countP_mono_left (l:=l2) fun x hx=>h x (List.mem_append_right _ (List.mem_cons_of_mem _ hx))
 omega
theorem Fill.ends{ps:List Bw}(F:Fill ps){p q:Bw}(hp:p∈ps)(hq:q∈ps):(p.1=q.1->p.2=q.2)/\p.1≠q.2/\(p.2=q.2->p.1=q.1):=by
 have hm:=F.mem hp
 have hm':=F.mem hq
 have two:∀ i:Nat,i<2 * ps.length->∀ a∈ps,∀ b∈ps,at1 i a=true->at1 i b=true->a=b:=fun i hi a ha b hb e1 e2=>by
  have:=F.one hi
  by_cases z:a=b
  ·exact z
  ·have h2:1<ps.countP (at1 i):=by
    have:=countP_lt (l:=ps) (P:=fun x=>decide (x=a)) (Q:=at1 i) (fun x _ hx=>by rw [of_decide_eq_true hx];exact e1) hb e2 (decide_eq_false fun e=>z e.symm)
    have h1:0<ps.countP (fun x=>decide (x=a)):=List.countP_pos_iff.mpr ⟨a,ha,decide_eq_true rfl⟩
    omega
   omega
 have two2:∀ i:Nat,i<2 * ps.length->∀ a∈ps,∀ b∈ps,at2 i a=true->at2 i b=true->a=b:=fun i hi a ha b hb e1 e2=>by
  have:=F.one hi
  by_cases z:a=b
  ·exact z
  ·have h2:1<ps.countP (at2 i):=by
    have:=countP_lt (l:=ps) (P:=fun x=>decide (x=a)) (Q:=at2 i) (fun x _ hx=>by rw [of_decide_eq_true hx];exact e1) hb e2 (decide_eq_false fun e=>z e.symm)
    have h1:0<ps.countP (fun x=>decide (x=a)):=List.countP_pos_iff.mpr ⟨a,ha,decide_eq_true rfl⟩
    omega
   omega
 refine⟨fun e=>?_,fun e=>?_,fun e=>?_⟩
 ·rw [two p.1.toNat (by omega) p hp q hq (decide_eq_true (by omega)) (decide_eq_true (by omega))]
 ·have:=F.one (i:=p.1.toNat) (by omega)
  have h1:0<ps.countP (at1 p.1.toNat):=List.countP_pos_iff.mpr ⟨p,hp,decide_eq_true (by omega)⟩
  have h2:0<ps.countP (at2 p.1.toNat):=List.countP_pos_iff.mpr ⟨q,hq,decide_eq_true (by omega)⟩
  omega
 ·rw [two2 p.2.toNat (by omega) p hp q hq (decide_eq_true (by omega)) (decide_eq_true (by omega))]
theorem nc_far{a b c d:Int}(hab:a<b)(n2:¬ (c<a/\a<d/\d<b))(e1:a≠d)(e2:d=b->c=a)(h1:c<a)(h2:a<=d):b<d:=by
 apply Decidable.byContradiction
 intro h
 have h3:¬ d<b:=fun z=>n2 ⟨h1,by omega,z⟩
 have h4:d=b:=by omega
 have:=e2 h4
 omega
theorem nc_near{a b c d:Int}(n1:¬ (a<c/\c<b/\b<d))(e1:c=a->d=b)(e2:c≠b)(h1:c<b+1)(h2:b+1<=d):c<a:=by
 apply Decidable.byContradiction
 intro h
 have h3:¬ a<c:=fun z=>n1 ⟨z,by omega,by omega⟩
 have h4:c=a:=by omega
 have:=e1 h4
 omega
theorem Fill.mate{ps:List Bw}(F:Fill ps)(nc:∀ p∈ps,∀ q∈ps,crossZ p q=false){p:Bw}(hp:p∈ps):Mate (wordB ps) p.1.toNat p.2.toNat:=by
 obtain⟨m1,m2,m3⟩:=F.mem hp
 have c1:((p.1.toNat:Nat):Int)=p.1:=Int.toNat_of_nonneg m1
 have c2:((p.2.toNat:Nat):Int)=p.2:=Int.toNat_of_nonneg (Int.le_of_lt (Int.lt_of_le_of_lt m1 m2))
 have lt:p.1.toNat<p.2.toNat:=Int.ofNat_lt.mp (by rw [c1,c2];exact m2)
 have lb:p.2.toNat<2 * ps.length:=Int.ofNat_lt.mp (by rw [c2];exact m3)
 have la:p.1.toNat<2 * ps.length:=Nat.lt_trans lt lb
 have n1:∀ q∈ps,¬ (p.1<q.1/\q.1<p.2/\p.2<q.2):=fun q hq ⟨a,b,c⟩=>by
  have:=nc p hp q hq
  unfold crossZ at this
  rw [decide_eq_true a,decide_eq_true b,decide_eq_true c] at this;cases this
 have n2:∀ q∈ps,¬ (q.1<p.1/\p.1<q.2/\q.2<p.2):=fun q hq ⟨a,b,c⟩=>by
  have:=nc q hq p hp
  unfold crossZ at this
  rw [decide_eq_true a,decide_eq_true b,decide_eq_true c] at this;cases this
 have over:∀ q∈ps,q.1<p.1->p.1<=q.2->p.2<q.2:=fun q hq=>nc_far m2 (n2 q hq) (F.ends hp hq).2.1 (F.ends hq hp).2.2
 refine⟨lt,by rw [wordB_len];exact lb,?_,?_,?_,fun i h1 h2=>?_⟩
 ·rw [wordB_at la,decide_eq_true]
  exact List.mem_map.mpr ⟨p,hp,c1.symm⟩
 ·rw [wordB_at lb,decide_eq_false]
  intro z
  obtain⟨q,hq,e⟩:=List.mem_map.mp z
  exact (F.ends hq hp).2.1 (e.trans c2)
 ·rw [F.D (p.2.toNat+1) lb,F.D _ (Nat.le_of_lt la)]
  congr 1
  refine List.countP_congr fun q hq=>?_
  simp only [covB,Bool.and_eq_true,decide_eq_true_eq,Int.natCast_add,Int.natCast_one]
  rw [c1,c2]
  refine⟨fun ⟨b1,b2⟩=>⟨nc_near (n1 q hq) (F.ends hq hp).1 (F.ends hq hp).2.1 b1 b2,?_⟩,fun ⟨b1,b2⟩=>⟨?_,over q hq b1 b2⟩⟩
  ·exact Int.le_trans (Int.le_of_lt m2) (Int.le_of_lt b2)
  ·exact Int.lt_trans (Int.lt_trans b1 m2) (Int.lt_succ p.2)
 ·have i1:p.1<(i:Int):=by rw [<-c1];exact Int.ofNat_lt.mpr h1
  have i2:(i:Int)<=p.2:=by rw [<-c2];exact Int.ofNat_le.mpr h2
  rw [F.D _ (Nat.le_of_lt la),F.D _ (Nat.le_of_lt (Nat.lt_of_le_of_lt h2 lb))]
  refine Int.ofNat_lt.mpr (countP_lt (l:=ps) (P:=covB p.1.toNat) (Q:=covB i) (fun q hq hc=>?_) hp ?_ ?_)
  ·simp only [covB,Bool.and_eq_true,decide_eq_true_eq] at hc ⊢
   rw [c1] at hc
   exact⟨Int.lt_trans hc.1 i1,Int.le_trans i2 (Int.le_of_lt (over q hq hc.1 hc.2))⟩
  ·simp only [covB,Bool.and_eq_true,decide_eq_true_eq]
   exact⟨i1,i2⟩
  ·simp only [covB,Bool.and_eq_false_iff,decide_eq_false_iff_not]
   exact .inl (by rw [c1];exact Int.lt_irrefl _)
end Rm
namespace Rm
open PySem L2
theorem isBowD_len{es:List PyData}(h:es.length≠2):isBowD (.tuple es)=false:=by
 cases e:isBowD (.tuple es) with
 | false=>rfl
 | true=>
  have:=(isBowD_shape e).1
  unfold bowD at this
  injection this with this
  rw [this] at h
  exact absurd rfl h
end Rm
namespace Rm
open PySem L2
theorem bow_w1{d e:PyData}(h:wholeD d=false):isBowD (.tuple [d,e])=false:=by cases d<;>first | rfl | cases h
theorem bow_w2{d e:PyData}(h:wholeD e=false):isBowD (.tuple [d,e])=false:=by cases d<;>cases e<;>first | rfl | cases h
theorem twoL_of{α:Type}:∀ {l:List α},l.length=2->∃ a b,l=[a,b]
 | [a,b],_=>⟨a,b,rfl⟩
end Rm
namespace Rm
open PySem L2
def inZ(p q:Bw):Bool:=decide (q.1<p.1)&&decide (p.2<q.2)
def spWithin:Sp:=fun vs H Q _=>∃ a b p q,vs=[.ref a,.ref b]/\tupAt H a p/\tupAt H b q/\Q (.bl (inZ p q)) H
end Rm
namespace Rm
open PySem L2
abbrev Oe:=Int×Int
def chain:Bool->List Int->Bool->List Bw
 | s,a::b::rest,t=>(if (!s)=t then [(min a b,max a b)] else [])++chain (!s) (b::rest) t
 | _,_,_=>[]
def lastS(s:Bool)(R:List Int):Bool:=s ^^ odd R.length
def hdZ(R:List Int):Int:=R.head?.getD 0
def ltZ(R:List Int):Int:=R.getLast?.getD 0
structure Pc where
 lab:Int
 rows:List Int
 s:Bool
 main:Bool
def Pc.fst(p:Pc):Oe×Bool:=((hdZ p.rows,p.lab),p.s)
def Pc.lst(p:Pc):Oe×Bool:=((ltZ p.rows,p.lab),lastS p.s p.rows)
def Pc.more(p:Pc):List (Oe×Bool):=if p.main then [] else [p.fst]
def Pc.ends(p:Pc):List (Oe×Bool):=p.lst::p.more
def Pc.rev(p:Pc):Pc:={ p with rows:=p.rows.reverse,s:=lastS p.s p.rows }
def Pc.bows(t:Bool)(p:Pc):List Bw:=chain p.s p.rows t
end Rm
namespace Rm
open PySem L2
theorem pair_app{α β:Type}{F:α->β->Prop}{l l':List α}{m m':List β}(h:Paired F l m)(h':Paired F l' m'):Paired F (l++l') (m++m'):=by
 induction h with
 | nil=>exact h'
 | cons a b ih=>exact .cons a ih
end Rm
namespace Rm
open PySem L2 PyProof.Rows
theorem layAll_of:∀ {ds:List PyData},(∀ d∈ds,d.canLay0=true)->PyData.canLayAll0 ds=true
 | [],_=>rfl
 | d::ds,h=>by
  show (d.canLay0&&PyData.canLayAll0 ds)=true
  rw [h d (by simp),layAll_of fun e he=>h e (by simp [he])];rfl
theorem depthAll_of{k:Nat}:∀ {ds:List PyData},(∀ d∈ds,d.depth<=k)->PyData.depthAll ds<=k
 | [],_=>Nat.zero_le _
 | d::ds,h=>by
  show max d.depth (PyData.depthAll ds)<=k
  exact Nat.max_le.mpr ⟨h d (by simp),depthAll_of fun e he=>h e (by simp [he])⟩
theorem pl_tup{ds:List PyData}{k:Nat}(h:∀ d∈ds,Pl d k):Pl (.tuple ds) (k+1):=⟨layAll_of fun d hd=>(h d hd).lay,Nat.succ_le_succ (depthAll_of fun d hd=>(h d hd).deep)⟩
theorem pl_int(n:Int){k:Nat}:Pl (.int n) k:=⟨rfl,Nat.zero_le _⟩
theorem pl1{d:PyData}{k:Nat}(h:Pl d k):∀ e∈[d],Pl e k:=fun e he=>by rw [List.mem_singleton] at he;subst he;exact h
theorem pl2{d e:PyData}{k:Nat}(h:Pl d k)(g:Pl e k):∀ f∈[d,e],Pl f k:=fun f hf=>by
 rcases List.mem_cons.mp hf with rfl | hf
 ·exact h
 ·exact pl1 g f hf
theorem pl3{d e f:PyData}{k:Nat}(h:Pl d k)(g:Pl e k)(i:Pl f k):∀ x∈[d,e,f],Pl x k:=fun x hx=>by
 rcases List.mem_cons.mp hx with rfl | hx
 ·exact h
 ·exact pl2 g i x hx
def scal:PyData->Bool
 | .none | .bool _ | .int _ | .str _=>true
 | _=>false
section
variable {K:PySem.W.Frag} {H:Hp} {Q:VK} {a b:Addr} {xs ys:List V}
theorem newO{R:Addr->Hp->Prop}{o:HO}(q:∀ p H',H p=none->Same H H'->H' p=some o->R p H'):∀ p,H p=none->R p (upd H p o):=fun p hp=>q p _ hp ((Same.refl H).new hp) upd_same
theorem catL_of(ha:H a=some (.lst xs))(hb:H b=some (.lst ys))(hz:xs.length+ys.length<=1000)(q:∀ p H',H p=none->Same H H'->H' p=some (.lst (xs++ys))->Q (.ref p) H'):rCat (.ref a) (.ref b) H Q:=
 ⟨a,b,xs,ys,rfl,rfl,ha,hb,Nat.le_of_lt (small1000 hz),newO (R:=fun p H'=>Q (.ref p) H') q⟩
end
end Rm
namespace L2
open PySem PySem.Spec PyProof.Rows
section
variable {prog:Program} {w:World} {A:Around} {E:Value->Shared->Prop} {h:Heap} {g:Array GenState} {d:Drawn} {t:Nat} {os:OsState}
variable {nm q:Str} {C N:Addr} {bs bm bmB:List Value} {hdct:Bool} {sn:List Str} {sub:List Value} {ab:Bool} {col:Option Bool} {dd:Option Addr} {k0 k1 k2 k3 k5:Option Value} {B newId initId:String}
theorem exc_typecall(F:ExcBaseFacts B newId initId bmB)(tl:OwnTail h bmB bm){mC:Str->Option Value}{us:List Value}{fi:Addr}{of:Obj}{R:Fin->Shared->Prop}
  (hK:h.get? C=some (excClassObj nm q C N bs bm hdct sn sub ab col dd k0 k1 k2 k3 k5 newId)) (hNs:h.Ns N mC) (hin:mC "__init__"=some (.ref fi)) (hof:h.get? fi=some of) (hfn:of.cls=.type "function") (hlen:us.length<=sizeLine)
  (go:∀ hh x,Heap.MadeExcOf h hh x (.ref C) us->wpAny (model prog w) A (call (.ref fi) (.ref x::us)) (fun r z=>r=.none/\R (.done (.ret (.ref x))) z) E ⟨hh,g,d,t,os⟩) :
  wpAny (model prog w) A (Builtin.«type.__call__» ⟨.ref C::us,[]⟩) R E ⟨h,g,d,t,os⟩:=by
 repeat (first | (with_reducible refine wpAny_loadPart_at hK ?_) | (with_reducible refine wpAny_madeBy_exc hK ?_) | wp_step)
 refine codeAny_call_builtin_code (Code.quiet_builtin _ F.quiet) (wpAny_check_new_subT F tl hK ?_)
 refine codeAny_exc_new_subT F tl hK ?_ hlen
 show wpAny _ _ _ _ _ _
 generalize hh1:h.push { cls:=.type "tuple",data:=.seq us.toArray }=h1
 generalize hh2:h1.push { cls:=.ref C,data:=.fields #[.ref h.objs.size,.none,.none,.none,.bool false,.none] }=h2
 have kp:∀ b o,h.get? b=some o->h2.get? b=some o:=fun b o e=>by rw [<-hh2,<-hh1];exact Heap.get?_push_of_some _ (Heap.get?_push_of_some _ e)
 have sz:h1.objs.size=h.objs.size+1:=by rw [<-hh1];exact Heap.size_push _ _
 have at2:h2.get? (h.objs.size+1)=some { cls:=.ref C,data:=.fields #[.ref h.objs.size,.none,.none,.none,.bool false,.none] }:=by rw [<-hh2,<-sz];exact Heap.get?_push_size _ rfl
 have at1:h2.get? h.objs.size=some { cls:=.type "tuple",data:=.seq us.toArray }:=by rw [<-hh2];refine Heap.get?_push_of_some _ ?_;rw [<-hh1];exact Heap.get?_push_size _ rfl
 have hK2:=kp _ _ hK
 have tl2:=tl.keeps kp
 have hN2:h2.Ns N mC:=let ⟨o,es,ep,e,r⟩:=hNs;⟨o,es,ep,kp _ _ e,r⟩
 have own:(Value.ref C::bm).contains (.ref C)=true:=by simp
 unfold isInstance
 repeat (first | (with_reducible refine wpAny_loadPart_at at2 ?_) | (with_reducible refine wpAny_isSubtype_exc hK2 ?_;rw [own]) | wp_step)
 show wpAny _ _ (typeLookup (.ref C) _) _ _ _
 refine wpAny_typeLookup_tail hK2 hN2 tl2 F.mroIs F.init.lookup ?_
 rw [hin]
 refine wpAny_holding (wpAny_bind ?_)
 unfold bindSpecial
 refine wpAny_bind (wpAny_typeOf (T:="function") ⟨_,kp _ _ hof,hfn⟩ ?_)
 rw [if_pos (by decide)]
 refine wpAny_pure (wpAny_bind (wpAny_mono (go h2 (h.objs.size+1) ⟨kp,Heap.get?_none_of_le (Nat.le_succ _),h.objs.size,at2,Heap.get?_none_of_le (Nat.le_refl _),at1⟩) (fun r z hr=>?_) fun _ _ y=>y))
 obtain⟨rfl,hR⟩:=hr
 wp_walk
 exact hR
theorem exc_made(F:ExcBaseFacts B newId initId bmB)(tl:OwnTail h bmB bm){mC:Str->Option Value}{us:List Value}{fi:Addr}{of:Obj}{R:Value->Shared->Prop}
  (hK:h.get? C=some (excClassObj nm q C N bs bm hdct sn sub ab col dd k0 k1 k2 k3 k5 newId)) (hNs:h.Ns N mC) (hin:mC "__init__"=some (.ref fi)) (hof:h.get? fi=some of) (hfn:of.cls=.type "function") (hlen:us.length<=sizeLine)
  (go:∀ hh x,Heap.MadeExcOf h hh x (.ref C) us->wpAny (model prog w) (A.under (.builtin "type.__call__" ⟨.ref C::us,[]⟩)) (call (.ref fi) (.ref x::us)) (fun r z=>r=.none/\R (.ref x) z) E ⟨hh,g,d,t,os⟩) :
  wpAny (model prog w) A (call (.ref C) us) R E ⟨h,g,d,t,os⟩:=by
 have l1:=tc_lookup
 have l2:=tc_bind (.ref C)
 have ty:(⟨h,g,d,t,os⟩:Shared).TypeIs (.ref C) "type":=⟨_,hK,rfl⟩
 refine wpAny_call (codeAny_of_tree ?_)
 show wpAny _ _ (callAny (.ref C) _) _ _ _
 repeat (any_goals (first | assumption | (with_reducible refine wpAny_loadPart_at hK ?_) | wp_step))
 refine⟨rfl,?_⟩
 exact codeAny_call_builtin_at (Code.quiet_builtin _ (by decide +kernel)) entry_typeCall (wpAny_check_type_call_sub hK (exc_typecall F tl hK hNs hin hof hfn hlen fun hh x m=>go hh x m))
end
section
variable {M:Model} {A:Around} {E:Value->Shared->Prop} {env:Env}
variable {nm q:Str} {C N:Addr} {bs bm:List Value} {hdct:Bool} {sn:List Str} {sub:List Value} {ab:Bool} {col:Option Bool} {dd:Option Addr} {k0 k1 k2 k3 k5:Option Value} {newId:String}
theorem raise_made {s:Shared} {x:Sem Value} {R:Flow->Shared->Prop} (hb:bm.contains (.type "BaseException")=true) (hh:A.handled=none)
  (go:wpAny M A x (fun v z=>∃ e dO a0 sl,v=.ref e/\z.heap.get? C=some (excClassObj nm q C N bs bm hdct sn sub ab col dd k0 k1 k2 k3 k5 newId)/\z.heap.get? e=some ⟨.ref C,dO,.fields #[a0,.none,.none,.none,.bool false,.none],sl⟩/\E (.ref e) z) E s) :
  wpAny M A (raiseStmt env (some x) none) R E s:=by
 have has:(Value.ref C::bm).contains (.type "BaseException")=true:=by rw [List.contains_cons,hb,Bool.or_true]
 unfold raiseStmt
 refine wpAny_bind (wpAny_mono go (fun v z h1=>?_) fun _ _ y=>y)
 obtain⟨e,dO,a0,sl,rfl,hK,he,hE⟩:=h1
 obtain⟨hp,g,d,tk,os⟩:=z
 repeat (first | (with_reducible refine wpAny_loadPart_at he ?_) | (with_reducible refine wpAny_loadPart_at hK ?_) | (with_reducible refine wpAny_isSubtype_exc hK ?_;rw [has]) | wp_step)
 exact wpAny_raiseNew_none hh hE
end
def excObj(dO:Option Addr)(C t:Addr):Obj:=⟨.ref C,dO,.fields #[.ref t,.none,.none,.none,.bool false,.none],#[]⟩
def selfO(dO:Option Addr)(C e:Addr):HO:=.ext fun h=>∃ t,h.get? e=some (excObj dO C t)
theorem self_ok{P:Program}{w:World}{H:Hp}{h:Heap}{dO:Option Addr}{C e t:Addr}(he:h.get? e=some (excObj dO C t)):ObjOk P w H h e (selfO dO C e):=
 ⟨⟨t,he⟩,⟨_,he⟩,fun _ _ ⟨t,a⟩ k=>⟨t,k _ a⟩⟩
structure IniCls (x:Str) (C fi:Addr) (bmB:List Value) (newId:String) (mg:Str->Option Value) (base:Heap):Prop where
 bound:mg x=some (.ref C)
 obj:∃ (bm:List Value) (N:Addr) (nm q:Str) (bs:List Value) (hdct:Bool) (sn:List Str) (sub:List Value) (ab:Bool) (col:Option Bool) (dd:Option Addr) (k0 k1 k2 k3 k5:Option Value) (mN:Str->Option Value),
  base.get? C=some (excClassObj nm q C N bs bm hdct sn sub ab col dd k0 k1 k2 k3 k5 newId)/\base.Ns N mN/\mN "__init__"=some (.ref fi)/\OwnTail base bmB bm
def tInitB(C:Addr)(t:TA):TE:=fun σ H Q=>t σ H fun vs H1=>∃ e v,vs=[.ref e,v]/\H1 e=some (selfO none C e)/\Q .non H1
theorem upd_id{H:Hp}{a:Addr}{o:HO}(h:H a=some o):upd H a o=H:=by
 funext b
 unfold upd
 split
 ·rename_i z;rw [z,h]
 ·rfl
section
variable {X:Cx}
theorem init_run{prog:Program}{w:World}{A:Around}{E:Value->Shared->Prop}{s:Shared}{bm bmB:List Value}{C N e t0:Addr}{nm q:Str}{bs:List Value}{hdct:Bool}{sn:List Str}{sub:List Value}{ab:Bool}{col:Option Bool}{dd:Option Addr}{k0 k1 k2 k3 k5:Option Value}{B newId initId:String}{v:Value}{Q:Value->Shared->Prop}
  (F:ExcBaseFacts B newId initId bmB) (tl:OwnTail s.heap bmB bm) (hK:s.heap.get? C=some (excClassObj nm q C N bs bm hdct sn sub ab col dd k0 k1 k2 k3 k5 newId)) (he:s.heap.get? e=some (excObj none C t0))
  (hq:∀ h' t1,h'.get? e=some (excObj none C t1)->(∀ b o,b≠e->s.heap.get? b=some o->h'.get? b=some o)->Q .none { s with heap:=h' }) :
  wpAny (model prog w) A (call (.builtin initId) [.ref e,v]) Q E s:=by
 obtain⟨h,g,d,t,os⟩:=s
 refine wpAny_call (codeAny_call_builtin F.init.plain F.initEntry (wpAny_check_init_subT F tl hK he rfl ?_))
 unfold Builtin.«BaseException.__init__»
 dsimp only
 rw [if_neg (by simp)]
 unfold newTuple Builtin.BaseException.bexcPut
 have he1:=Heap.get?_push_of_some (h:=h) { cls:=.type "tuple",data:=.seq [v].toArray } he
 refine wpAny_bind (wpAny_newObj_type (wpAny_bind (wpAny_bind (wpAny_field he1 rfl rfl (wpAny_bind (wpAny_setField he1 rfl (by show 0<6;decide) ?_))))) (by show 1<=sizeLine;rw [sizeLine_eq];omega))
 refine wpAny_letGo (wpAny_pure (hq _ h.objs.size ?_ fun b o nb hb=>?_))
 ·exact (Heap.get?_update_self _ he1 rfl).trans rfl
 ·exact (Heap.get?_update_of_ne _ (Ne.symm nb) (Heap.get?_push_of_some _ hb))
theorem pe_initB{xR:Str}{x:Str}{R C fi:Addr}{bmB:List Value}{B newId initId:String}{e:Expr}{es:List Expr}{t:TA}{p apos pos:Pos}{pl:Sem Bool}(F:ExcBaseFacts B newId initId bmB)(O:IniCls x C fi bmB newId X.mg X.base)(hgR:Gl X xR)(hmR:X.mg xR=some (.ref R))
  (rd:PySem.W.readsIn X.K R (.type "type")=true) (sg:PySem.W.specialIn X.K (.ref R) "__getattribute__"=some (some (.builtin "type.__getattribute__"))) (fc:PySem.W.findCls X.K (.ref R) (.type "type") "__init__"=some (.val (.builtin initId)))
  (hh:PySem.W.handedIn (.builtin initId)=true) (ha:PA X (e::es) t) (hdb:(xR==("__debug__":Str))=false:=by decide)
  (hst:starEach (e::es) X.env=(false,eval e X.env)::starEach es X.env:=by rfl) (hpl:(backTo pos (starEach es X.env)).any (·.1)=false:=by rfl)
  (ht:eval (.Call (.Attribute (.Name xR p) "__init__" apos) (e::es) [] pos) X.env=(do
   let ov <-eval (.Name xR p) X.env
   standAt apos.atName
   let (f,fst) <-holding [ov] (getMethod ov "__init__" pl)
   callWith pos f fst (backTo pos (starEach (e::es) X.env)) (backToKw pos (keywordEach [] X.env))):=by rfl) :
  PE X (.Call (.Attribute (.Name xR p) "__init__" apos) (e::es) [] pos) (tInitB C t):=by
 intro pins s σ H Q I h
 refine PySem.W.methodCall_KW (pl:=pl) (ld_glob I hgR hmR (PySem.W.method_cls I.kIn sg (PySem.W.cls_value I.kIn rd fc hh ?_)) hdb) ht
 have It:=I.tok (s.toks+1)
 refine PyProof.Rows.callWith_builtin1 (thn (ha pos pins _ σ H _ It h) fun us s1 ⟨vs,H1,I1,r,x0,v,ev,hx,q⟩=>?_) hst hpl
 subst ev
 obtain⟨bm,N,nm,q0,bs,hdct,sn,sub,ab,col,dd,k0,k1,k2,k3,k5,mN,hC,hN,hi,ot⟩:=O.obj
 obtain⟨u0,u1,rfl,r0,r1⟩:=Vals.two r
 cases (show u0=Value.ref x0 from r0)
 obtain⟨t0,hx0⟩:=(I1.hok x0 _ hx).1
 refine init_run (A:=X.A) F (tail_keeps I1.bk ot) (I1.bk _ _ hC) hx0 fun h' t1 e1 k=>?_
 have I2:=I1.write (x:=x0) (e:=x0) (o:=selfO none C x0) (t':=s1.toks) (by rw [hx];exact True.intro) (.inl rfl) (fun b o nb hb=>k b o nb hb) ⟨_,e1⟩ (self_ok e1)
 rw [upd_id hx] at I2
 exact⟨.non,_,I2,rfl,q⟩
end
theorem osa_exc{prog:Program}{w:World}{A:Around}{R:Result->Shared->Prop}{s:Shared}{K:PySem.W.Frag}{x C:Addr}{cd:ClassData}{name:Str}{tk:Tok}{v:Value}{t0:Addr}(Xk:K.In s.heap)(hx:s.heap.get? x=some (excObj none C t0))
  (hc:PySem.W.clsIn K C=some cd) (hdc:cd.hasDict=true) (hob:cd.mro.contains (.type "object")=true) (hpass:refuseLoop (.ref x) "__setattr__" cd.mro=pure ()) (hn:PySem.W.findIn K (.ref C) name=some none)
  (go:∀ h' tk' dx,s.heap.get? dx=none->h'.get? x=some (excObj (some dx) C t0)->h'.Ns1 dx (fun y=>if y=name then some v else none)->(∀ b o,b≠x->s.heap.get? b=some o->h'.get? b=some o)->R (.ok (.ret .none)) { s with heap:=h',toks:=tk' }) :
  codeAny (model prog w) A (.call (.builtin "object.__setattr__") ⟨[.ref x,.str name tk,v],[]⟩) R s:=by
 have SF:=PySem.F.store_object
 obtain⟨h,g,d,t,os⟩:=s
 have ty:PySem.W.InstAt h x (excObj none C t0) C none:=⟨hx,rfl,rfl,trivial⟩
 have ne:cd.mro.isEmpty=false:=by cases q:cd.mro with | nil=>rw [q] at hob;cases hob | cons _ _=>rfl
 have sub:PySem.W.Looks (model prog w) h (isInstance (.ref x) (.type "object")) true:=ty.type.andThen (PySem.W.looks_mroIn Xk (by unfold PySem.W.mroIn;rw [hc,Option.bind_some,if_neg (by rw [ne];decide),hob]))
 refine codeAny_call_builtin SF.slot.plain SF.entry (@PySem.W.check_slot (model prog w) _ _ ⟨h,g,d,t,os⟩ "object.__setattr__" "object" "__setattr__" (.ref x) [.str name tk,v] [] _ SF.kind SF.split sub (SF.args (.ref x) (.str name tk) v) ?_)
 have mr:PySem.W.Looks (model prog w) h (mroOf (.ref C)) cd.mro:=(PySem.W.looks_clsIn Xk hc).andThen .now
 rw [PySem.W.osa_eq,refuse_eq]
 refine wpAny_bind (wpAny_bind (ty.type.here (wpAny_bind (mr.here ?_))))
 rw [hpass]
 refine wpAny_pure (wpAny_bind (ty.type.here (wpAny_bind ((PySem.W.looks_findIn Xk hn).here (wpAny_bind (wpAny_pure ?_))))))
 show wpAny _ _ (Builtin.ObjectAttr.storeInOwnDict (.ref x) (.ref C) (.str name tk) name v false) _ _ _
 unfold Builtin.ObjectAttr.storeInOwnDict
 refine wpAny_bind (wpAny_pure (wpAny_bind (wpAny_bind (wpAny_loadPart hx (wpAny_bind ((PySem.W.looks_clsIn Xk hc).here ?_))))))
 rw [hdc]
 have hx1:(h.push { cls:=.type "dict",data:=.dict #[] }).get? x=some (excObj none C t0):=Heap.get?_push_of_some _ hx
 have ns:x≠h.objs.size:=Nat.ne_of_lt (Heap.lt_size hx)
 refine wpAny_bind (wpAny_alloc' (wpAny_bind (wpAny_update' hx1 ?_)))
 refine wpAny_pure ?_
 generalize hh2:(h.push { cls:=.type "dict",data:=.dict #[] }).update x _=h2
 have dNew:h2.get? h.objs.size=some { cls:=.type "dict",data:=.dict #[] }:=by rw [<-hh2];exact (Heap.get?_update_ne _ _ _ _ (Ne.symm ns)).trans (Heap.get?_push_size _ rfl)
 have x2:h2.get? x=some (excObj (some h.objs.size) C t0):=by rw [<-hh2];exact (Heap.get?_update_self _ hx1 rfl).trans rfl
 have nsE:h2.Ns h.objs.size (fun _=>none):=⟨_,#[],_,dNew,rfl,fun e he=>absurd he (by simp),fun _=>rfl⟩
 show wpAny _ _ (Builtin.ObjectAttr.storeInDict h.objs.size (.str name tk) name v) _ _ _
 unfold Builtin.ObjectAttr.storeInDict Builtin.ObjectAttr.newKeyGuard
 refine wpAny_bind (wpAny_pure (wpAny_bind (wpAny_nsSet1 (Heap.Ns1.of_empty nsE) fun h3 n3 s3=>?_)))
 obtain⟨oD,esD,epD,e1,e2,e3⟩:=n3.count (Within.cons name v Within.nil)
 refine wpAny_bind (wpAny_lookBehind e1 (by rw [e2];exact pastItsLine_dict (Nat.le_trans e3 (by rw [List.length_cons,List.length_nil,sizeLine_eq];omega))) ?_)
 refine wpAny_pure (go h3 _ h.objs.size (Heap.get?_none_of_le (Nat.le_refl _)) ((s3.2 x ns).trans x2) n3 fun b o nb hb=>(s3.2 b (Nat.ne_of_lt (Heap.lt_size hb))).trans ?_)
 rw [<-hh2]
 exact (Heap.get?_update_ne _ _ _ _ nb).trans (Heap.get?_push_of_some _ hb)
structure IniK (K:PySem.W.Frag) (C:Addr) (f:Str):Prop where
 sa:PySem.W.findIn K (.ref C) "__setattr__"=some (some (.builtin "object.__setattr__"))
 cls:∃ cd,PySem.W.clsIn K C=some cd/\cd.hasDict=true/\cd.mro.contains (.type "object")=true/\∀ self,refuseLoop self "__setattr__" cd.mro=pure ()
 no:PySem.W.findIn K (.ref C) f=some none
def sFldE(C:Addr)(f:Str)(ta tv:TE):TS:=fun D σ H=>tv σ H fun y H1=>ta σ H1 fun x H2=>∃ e,x=.ref e/\H2 e=some (selfO none C e)/\∀ dx,H2 dx=none->dx≠e->D.nx σ (upd (upd H2 dx (.xd [(f,y)])) e (selfO (some dx) C e))
section
variable {X:Cx}
theorem Inv.dicted{pins:List (Addr×Obj)}{σ:St}{H:Hp}{s:Shared}{e dx C t0:Addr}{f:Str}{y:V}{u:Value}{h':Heap}{tk:Nat}(I:Inv X pins σ H s)(he:H e=some (selfO none C e))(nd:s.heap.get? dx=none)(ne:dx≠e)(ry:RelV y u)
  (e1:h'.get? e=some (excObj (some dx) C t0)) (n1:h'.Ns1 dx (fun z=>if z=f then some u else none)) (kp:∀ b o,b≠e->s.heap.get? b=some o->h'.get? b=some o) :
  H dx=none/\Inv X pins σ (upd (upd H dx (.xd [(f,y)])) e (selfO (some dx) C e)) { s with heap:=h',toks:=tk }:=by
 have hn:H dx=none:=by
  cases z:H dx with
  | none=>rfl
  | some o=>obtain⟨ob,q⟩:=(I.hok dx o z).ex;rw [nd] at q;cases q
 have oth:∀ b,b≠e->b≠dx->upd (upd H dx (.xd [(f,y)])) e (selfO (some dx) C e) b=H b:=fun b h1 h2=>by rw [upd_ne h1,upd_ne h2]
 have inh:∀ b o,s.heap.get? b=some o->b≠dx:=fun b o q z=>by subst z;rw [nd] at q;cases q
 have trk:∀ b o,H b=some o->b≠dx:=fun b o q z=>by subst z;rw [hn] at q;cases q
 have net:∀ b o,H b=some o->(∀ φ,o≠.ext φ)->b≠e:=fun b o q n z=>by subst z;rw [he] at q;cases q;exact n _ rfl
 have unt:∀ b,H b=none->b≠e:=fun b q z=>by subst z;rw [he] at q;cases q
 refine⟨hn,I.un ⟨fun b o q n _ _=>kp b o (unt b n) q,fun b o q n _ _=>⟨o.slots,kp b o (unt b n) q⟩,fun b o q n _=>by rw [oth b (unt b n) (inh b o q)];exact n,fun b o q _=>?_,
  fun b xs q=>by rw [oth b (net b _ q fun φ z=>by cases z) (trk b _ q)];exact q,fun b o v q=>by rw [oth b (net b _ q fun φ z=>by cases z) (trk b _ q)];exact q,fun b ps q=>⟨#[],by rw [oth b (net b _ q fun φ z=>by cases z) (trk b _ q),q];simp⟩⟩ fun b o q=>?_⟩
 ·by_cases z:b=e
  ·exact⟨_,z▸e1⟩
  ·exact⟨o,kp b o z q⟩
 ·by_cases z:b=e
  ·subst z
   rw [upd_same] at q
   cases q
   exact self_ok e1
  ·rw [upd_ne z] at q
   by_cases z2:b=dx
   ·subst z2
    rw [upd_same] at q
    cases q
    refine⟨_,n1,fun g=>?_⟩
    by_cases zg:g=f
    ·subst zg;simp only [List.lookup,beq_self_eq_true,if_true];exact ry
    ·have:(g==f)=false:=beq_eq_false_iff_ne.mpr zg
     simp only [List.lookup,this,if_neg zg];trivial
   ·rw [upd_ne z2] at q
    refine (I.hok b o q).stay (fun c v hc q'=>kp c v ?_ q') (fun c q'=>by rw [oth c (net c _ q' fun φ z=>by cases z) (trk c _ q')];exact q') fun c xs q'=>by rw [oth c (net c _ q' fun φ z=>by cases z) (trk c _ q')];exact q'
    rcases hc with r | r
    ·rw [r];exact z
    ·exact net c _ r fun φ z=>by cases z
theorem ps_setE{o value:Expr}{f:Str}{C:Addr}{pos pos':Pos}{ta tv:TE}(k:IniK X.K C f)(ha:PE X o ta)(hv:PE X value tv)(hs:swapsWith value (some (.Attribute o f pos')) pos.line X.env=pure false):PS X (.Assign [.Attribute o f pos'] value pos) (sFldE C f ta tv):=by
 intro pins s σ H D I h
 refine plainObj_wpAny_Assign_Attribute (thn (hv pins s σ H _ I h) fun u s1 ⟨y,H1,I1,ry,q⟩=>thn (ha pins s1 σ H1 _ I1 q) fun ov s2 ⟨x,H2,I2,rx,e,ex,he,q2⟩=>?_) hs
 subst ex
 obtain rfl:ov=Value.ref e:=rx
 obtain⟨t0,hx⟩:=(I2.hok e _ he).1
 obtain⟨cd,hc,hd,ho,hp⟩:=k.cls
 refine PySem.W.set_plain I2.kIn (ox:=excObj none C t0) (od:=none) ⟨hx,rfl,rfl,trivial⟩ k.sa (osa_exc (s:={ s2 with toks:=s2.toks+1 }) I2.kIn hx hc hd ho (hp _) k.no fun h' tk' dx nd e1 n1 kp=>?_)
 have ne:dx≠e:=fun z=>by subst z;rw [show s2.heap.get? dx=none from nd] at hx;cases hx
 obtain⟨hn,I3⟩:=Inv.dicted (tk:=tk') I2 he nd ne ry e1 n1 kp
 exact⟨_,_,I3,q2 dx hn ne⟩
end
theorem num_short:∀ n:Nat,n<=60->(PySem.Str.ofString (toString (n:Int))).length<=2/\(n:Int).natAbs.log2<1920:=by
 have h:∀ n:Fin 61,(PySem.Str.ofString (toString ((n:Nat):Int))).length<=2/\((n:Nat):Int).natAbs.log2<1920:=by decide +kernel
 exact fun n hn=>h ⟨n,by omega⟩
def delH(H:Hp)(e:Addr):Hp:=fun b=>if b=e then none else H b
theorem delH_ne{H:Hp}{e b:Addr}(h:b≠e):delH H e b=H b:=if_neg h
theorem delH_some{H:Hp}{e b:Addr}{o:HO}(h:delH H e b=some o):b≠e/\H b=some o:=by
 unfold delH at h
 split at h
 ·cases h
 ·rename_i z;exact⟨z,h⟩
def RaisV(X:Cx)(E:XK):Prop:=∀ (pins:List (Addr×Obj)) (σ:St) (H1 H:Hp) (s1 s:Shared) (e C:Addr) (dO:Option Addr),Inv X pins σ H1 s1->s1.heap.get? e=none->Inv X pins σ H s->H e=some (selfO dO C e)->E (.ref C) dO (delH H e)->X.xe (.ref e) s
theorem raisV_def{P:Program}{w:World}{K:PySem.W.Frag}{mg:Str->Option Value}{base:Heap}{N:List Str}{qual:Str}{scope:Scope}{f:Addr}{cd:Value}{A:Around}{outer:List Env}{s0:Shared}{H0:Hp}{E:XK}:
  RaisV (cxOf (CXx P w) P w K mg base N qual scope f cd A outer s0 H0 E) E:=by
 intro pins σ H1 H s1 s e C dO I1 n1 I he hE
 generalize hX:cxOf (CXx P w) P w K mg base N qual scope f cd A outer s0 H0 E=X at I I1 ⊢
 have hst:X.stack=X.env::X.outer:=by rw [<-hX];rfl
 have hfr:X.env.frame=some X.env.locals:=by rw [<-hX];rfl
 have hxe:X.xe=fun e s'=>wpAny (model X.prog X.w) X.A (leaving X.env e) (fun _ s''=>CXx X.prog X.w X.outer X.H₀ X.s₀ E e s'') (fun e' s''=>CXx X.prog X.w X.outer X.H₀ X.s₀ E e' s'') s':=by rw [<-hX];rfl
 have hex:X.ex=[]:=by rw [<-hX];rfl
 have hfs:frs X.stack=X.env.locals::X.fs:=by rw [hst];unfold frs;rw [List.filterMap_cons,hfr];rfl
 clear hX
 have ne0:∀ b o,X.s₀.heap.get? b=some o->b≠e:=fun b o q z=>by
  subst z
  obtain⟨o',q'⟩:=I1.base.there b o q (by rw [hex];simp)
  rw [n1] at q';cases q'
 rw [hxe]
 obtain⟨t0,hobj⟩:=(I.hok e _ he).1
 have hB:∀ b o,s.heap.get? b=some o->b≠e->b∉frs X.stack->(PySem.W.hideAll s.heap (e::frs X.stack)).get? b=some o:=fun b o q1 q2 q3=>PySem.W.hideAll_get _ q1 (fun z=>(List.mem_cons.mp z).elim q2 q3)
 have Be:(PySem.W.hideAll s.heap (e::frs X.stack)).get? e=none:=PySem.W.hideAll_none _ List.mem_cons_self
 refine wpAny_pres (Pres.leave (dO:=dO) (e:=e)) ⟨_,_,hobj,⟨rfl,rfl⟩,rfl⟩ ?_
 refine wpAny_leaving_firstW (base:=PySem.W.hideAll s.heap (e::frs X.stack)) (outer:=X.outer) (L:=X.env.locals) (a0:=.ref t0) (by rw [I.ok.frames,hst]) (funs_rebase (hst▸I.stack) fun b m=>PySem.W.hideAll_none _ (List.mem_cons_of_mem _ (hst▸m))) hfr hobj
  (fun b o q=>PySem.W.of_hideAll _ q) Be rfl rfl rfl fun h2 hL ct=>?_
 obtain⟨stay,⟨_,_,k2⟩,k3,up⟩:=hL
 have out:∀ b o,X.s₀.heap.get? b=some o->b∉X.fs->b∉frs X.stack:=fun b o q1 q2 z=>by
  rw [hfs] at z
  exact (List.mem_cons.mp z).elim (Nat.ne_of_lt (Nat.lt_of_lt_of_le (Heap.lt_size q1) I.ok.above)) q2
 have slot:∀ b o,s.heap.get? b=some o->b∈X.fs->∃ sl,h2.get? b=some { o with slots:=sl }:=fun b o q m=>by
  obtain⟨_,o',q2,nf⟩:=I.funs.mem m
  rw [q] at q2
  cases q2
  obtain⟨sl,z⟩:=up b o q nf
  exact⟨sl,z⟩
 have u:=I.base
 rw [hex] at u
 have net:∀ b o,H b=some o->(∀ φ,o≠.ext φ)->b≠e:=fun b o q n z=>by subst z;rw [he] at q;cases q;exact n _ rfl
 refine⟨e,C,t0,delH H e,_,dO,rfl,I.os,I.bare,⟨fun b o q1 q2 q3 q4=>?_,fun b o q1 q2 q3 q4=>?_,fun b o q1 q2 q3=>?_,fun b o q1 q2=>?_,fun b xs q=>?_,fun b o v q=>?_,fun b ps q=>?_⟩,fun b o q1=>?_,⟨stay,Be,k2,k3⟩,⟨fun b o q1 q2=>?_,fun b o q1=>?_⟩,ct,hE⟩
 ·exact stay b o (hB b o (u.keep b o q1 q2 q3 q4) (ne0 b o q1) (out b o q1 q3))
 ·obtain⟨sl,q⟩:=u.slot b o q1 q2 q3 q4
  exact (slot b _ q q3).imp fun sl' z=>z
 ·rw [delH_ne (ne0 b o q1)];exact u.free b o q1 q2 q3
 ·obtain⟨o',q⟩:=u.there b o q1 q2
  by_cases m:b∈X.fs
  ·obtain⟨sl,q'⟩:=slot b o' q m
   exact⟨_,q'⟩
  ·exact⟨o',stay b o' (hB b o' q (ne0 b o q1) (out b o q1 m))⟩
 ·have q':=u.tups b xs q
  rw [delH_ne (net b _ q' fun φ z=>by cases z)];exact q'
 ·have q':=u.frzs b o v q
  rw [delH_ne (net b _ q' fun φ z=>by cases z)];exact q'
 ·obtain⟨more,q'⟩:=u.tbls b ps q
  exact⟨more,by rw [delH_ne (net b _ q' fun φ z=>by cases z)];exact q'⟩
 ·obtain⟨nb,q2⟩:=delH_some q1
  refine (I.hok b o q2).stay (fun c v hc q=>stay c v (hB c v q ?_ fun z=>?_)) (fun c q=>by rw [delH_ne (net c _ q fun φ z=>by cases z)];exact q) fun c xs q=>by rw [delH_ne (net c _ q fun φ z=>by cases z)];exact q
  ·rcases hc with r | r
   ·rw [r];exact nb
   ·exact net c _ r fun φ z=>by cases z
  ·have n:=I.stkFree c z
   rcases hc with r | r
   ·rw [r,q2] at n;cases n
   ·rw [r] at n;cases n
 ·obtain⟨o',q⟩:=u.there b o q1 (by simp)
  exact⟨o',hB b o' q (ne0 b o q1) (out b o q1 q2)⟩
 ·obtain⟨nb,q2⟩:=delH_some q1
  obtain⟨ob,q⟩:=(I.hok b o q2).ex
  refine⟨ob,hB b ob q nb fun z=>?_⟩
  have n:=I.stkFree b z
  rw [q2] at n;cases n
def spIni(C:Addr)(f:Str)(ok:V->Hp->Prop):Sp:=fun vs H Q _=>∃ e v,vs=[.ref e,v]/\ok v H/\H e=some (selfO none C e)/\∀ dx,H dx=none->dx≠e->Q .non (upd (upd H dx (.xd [(f,v)])) e (selfO (some dx) C e))
def tRaiseV(C:Addr)(f:Str)(ok:V->Hp->Prop)(E:XK)(t:TA):TS:=fun _ σ H=>t σ H fun vs H1=>∃ v,vs=[v]/\ok v H1/\∀ dx,H1 dx=none->E (.ref C) (some dx) (upd H1 dx (.xd [(f,v)]))
section
variable {X:Cx}
theorem Inv.freshV{pins:List (Addr×Obj)}{σ:St}{H:Hp}{s:Shared}{a:Addr}{o:HO}{h':Heap}(I:Inv X pins σ H s)(na:s.heap.get? a=none)(k:∀ b u,s.heap.get? b=some u->h'.get? b=some u)(new:ObjOk X.prog X.w (upd H a o) h' a o):H a=none/\Inv X pins σ (upd H a o) { s with heap:=h' }:=by
 have hn:H a=none:=by
  cases z:H a with
  | none=>rfl
  | some o=>obtain⟨ob,q⟩:=(I.hok a o z).ex;rw [na] at q;cases q
 have inh:∀ b o,s.heap.get? b=some o->b≠a:=fun b o q z=>by subst z;rw [na] at q;cases q
 have trk:∀ b o,H b=some o->b≠a:=fun b o q z=>by subst z;rw [hn] at q;cases q
 refine⟨hn,I.un (t':=s.toks) ⟨fun b o q n _ _=>k b o q,fun b o q n _ _=>⟨o.slots,k b o q⟩,fun b o q n _=>by rw [upd_ne (inh b o q)];exact n,fun b o q _=>⟨o,k b o q⟩,fun b xs q=>by rw [upd_ne (trk b _ q)];exact q,fun b o v q=>by rw [upd_ne (trk b _ q)];exact q,fun b ps q=>⟨#[],by rw [upd_ne (trk b _ q),q];simp⟩⟩ fun b u q=>?_⟩
 by_cases z:b=a
 ·subst z;rw [upd_same] at q;cases q;exact new
 ·rw [upd_ne z] at q
  exact (I.hok b u q).stay (fun c v hc q'=>k c v q') (fun c q'=>by rw [upd_ne (trk c _ q')];exact q') fun c xs q'=>by rw [upd_ne (trk c _ q')];exact q'
theorem ps_raiseV{x f:Str}{ok:V->Hp->Prop}{C fi:Addr}{fd:FuncData}{ps:List Str}{k:Nat}{bmB:List Value}{B newId initId:String}{E:XK}{e:Expr}{es:List Expr}{t:TA}{np cpos pos:Pos}(R:RaisV X E)(O:IniCls x C fi bmB newId X.mg X.base)(F:ExcBaseFacts B newId initId bmB)
  (G:FnOk X.prog X.w X.K X.mg X.base CX0 k fi fd ps (spIni C f ok)) (hty:PySem.W.typeIn X.K (.ref fi)=some (.type "function")) (hkp:PySem.W.keepIn X.K (.ref C)=true) (hb:Binds X.K fd ps []) (hok:∀ v H x o,H x=none->ok v H->ok v (upd H x o)) (hr:Room (k+1) X.A) (hg:Gl X x) (ha:PA X (e::es) t)
  (hdb:(x==("__debug__":Str))=false:=by decide) (he:starEach (e::es) X.env=(false,eval e X.env)::starEach es X.env:=by rfl) (hpl:(backTo cpos (starEach es X.env)).any (·.1)=false:=by rfl) :
  PS X (.Raise (some (.Call (.Name x np) (e::es) [] cpos)) none pos) (tRaiseV C f ok E t):=by
 intro pins s σ H D I h
 obtain⟨bm,N,nm,q,bs,hdct,sn,sub,ab,col,dd,k0,k1,k2,k3,k5,mN,hC,hN,hi,ot⟩:=O.obj
 obtain⟨of,hof,hfn⟩:∃ of,X.K.lookup fi=some of/\of.cls=.type "function":=by
  have hty':Option.map (fun x=>x.cls) (List.lookup fi X.K)=some (.type "function"):=hty
  obtain⟨of,h1,h2⟩:=Option.map_eq_some_iff.mp hty'
  exact⟨of,h1,h2⟩
 rw [arm_exec_Raise]
 refine wpAny_bind (wpAny_standAt (raise_made (C:=C) (nm:=nm) (q:=q) (N:=N) (bs:=bs) (bm:=bm) (hdct:=hdct) (sn:=sn) (sub:=sub) (ab:=ab) (col:=col) (dd:=dd) (k0:=k0) (k1:=k1) (k2:=k2) (k3:=k3) (k5:=k5) (newId:=newId) (tail_has F.hasBase ot) hr.hd ?_))
 refine wpAny_bind (wpAny_mono (Q:=fun v z=>∃ e dO a0 sl,v=.ref e/\z.heap.get? C=some (excClassObj nm q C N bs bm hdct sn sub ab col dd k0 k1 k2 k3 k5 newId)/\z.heap.get? e=some ⟨.ref C,dO,.fields #[a0,.none,.none,.none,.bool false,.none],sl⟩/\X.xe (.ref e) z) ?_ (fun v s3 h3=>wpAny_bind (wpAny_standAt (wpAny_pure h3))) fun _ _ y=>y)
 refine wpAny_Call_Name_kw (ld_glob I hg O.bound ?_ hdb)
 refine PySem.W.callWith_K (h₀:=X.base) I.ok.mod.kin hkp (thn (ha cpos pins s σ H _ I h) fun us s1 ⟨vs,H1,I1,r,v,ev,okv,qE⟩=>⟨I1.kIn,?_⟩) he hpl
 subst ev
 obtain⟨h1,g1,d1,t1,os1⟩:=s1
 have hlen:us.length<=sizeLine:=by rw [<-r.length];show 1<=sizeLine;rw [sizeLine_eq];omega
 refine exc_made F (tail_keeps I1.bk ot) (I1.bk _ _ hC) (ns_keeps I1.bk hN) hi (I1.kIn _ _ hof) hfn hlen fun hh x0 m=>?_
 obtain⟨t0,m1,m2,m3⟩:=m.there
 obtain⟨nx,I2⟩:=I1.freshV (o:=selfO none C x0) m.new m.keeps (self_ok (t:=t0) m1)
 have r2:Vals ([V.ref x0,v]++[]) ((Value.ref x0::us)++[]):=Vals.append (.cons rfl r) .nil
 have sp0:spIni C f ok ([V.ref x0,v]++[]) (upd H1 x0 (selfO none C x0)) (fun y H3=>y=.non/\∃ dx,H1 dx=none/\dx≠x0/\H3=upd (upd (upd H1 x0 (selfO none C x0)) dx (.xd [(f,v)])) x0 (selfO (some dx) C x0)) E0:=
  ⟨x0,v,rfl,hok _ _ _ _ nx okv,upd_same,fun dx n1 n2=>⟨rfl,dx,by rw [upd_ne n2] at n1;exact n1,n2,rfl⟩⟩
 have hl:((Value.ref x0::us)++[]).length=ps.length:=by rw [<-r2.length];exact G.len _ _ _ _ sp0
 refine wpAny_call (codeAny_mono (G.run _ X.stack _ _ ⟨Value.ref x0::us,[]⟩ ((Value.ref x0::us)++[]) ([V.ref x0,v]++[]) _ E0 (hr.make C us []) (I2.env0.make C us []) (hb _ (Value.ref x0::us) I2.kIn hl) r2 sp0) fun rs s' hq=>?_)
 cases rs with
 | error ev=>exact False.elim hq
 | ok fl=>
  cases fl with
  | ret u=>
   obtain⟨y,H3,I3,ry,rfl,dx,n1,n2,rfl⟩:=I2.after hq
   obtain⟨t3,o3⟩:=(I3.hok x0 _ upd_same).1
   refine⟨ry,x0,some dx,.ref t3,#[],rfl,I3.bk _ _ hC,o3,R pins σ H1 _ _ _ x0 C (some dx) I1 m.new I3 upd_same ?_⟩
   have e:delH (upd (upd (upd H1 x0 (selfO none C x0)) dx (.xd [(f,v)])) x0 (selfO (some dx) C x0)) x0=upd H1 dx (.xd [(f,v)]):=by
    funext b
    by_cases z:b=x0
    ·subst z;unfold delH;rw [if_pos rfl,upd_ne (Ne.symm n2),nx]
    ·rw [delH_ne z,upd_ne z]
     by_cases z2:b=dx
     ·subst z2;rw [upd_same,upd_same]
     ·rw [upd_ne z2,upd_ne z2,upd_ne z]
   rw [e]
   exact qE dx n1
  | next=>exact False.elim hq
  | brk=>exact False.elim hq
  | cont=>exact False.elim hq
end
structure ExcA (K:PySem.W.Frag) (C:Addr) (f:Str):Prop where
 ga:PySem.W.findIn K (.ref C) "__getattribute__"=some (some (.builtin "BaseException.__getattribute__"))
 gt:PySem.W.findIn K (.ref C) "__getattr__"=some none
 no:PySem.W.findIn K (.ref C) f=some none
 hd:PySem.W.hasDictIn K C=true
 own:∃ B bmB,ExcAttrBase B bmB/\∀ h:Heap,K.In h->∃ nm q N bs bm hdct sn sub ab col dd k0 k1 k2 k3 k5 newId,h.get? C=some (excClassObj nm q C N bs bm hdct sn sub ab col dd k0 k1 k2 k3 k5 newId)/\OwnTailQ h bmB bm
def tExcA(K:PySem.W.Frag)(f:Str)(ta:TE):TE:=fun σ H Q=>ta σ H fun x H1=>∃ a C dx v,x=.ref a/\H1 a=some (excD (some dx) C a)/\H1 dx=some (.xd [(f,v)])/\ExcA K C f/\Q v H1
theorem ns_has{K:PySem.W.Frag}{h:Heap}{N:Addr}{m:Str->Option Value}{x:Str}{v:Value}(KX:K.In h)(G:h.Ns N m)(q:PySem.W.nsIn K N x=some (some v)):m x=some v:=by
 obtain⟨o,es,ep,ho,hd,hk,hf⟩:=G
 unfold PySem.W.nsIn at q
 revert q
 split
 ·rename_i c d es' n' sl lk
  have e1:=KX _ _ lk
  rw [ho] at e1
  cases e1
  cases hd
  intro q
  split at q
  ·rename_i en fe
   cases q
   rw [<-hf]
   unfold nsFind findBy
   rw [<-Array.find?_toList,fe];rfl
  ·split at q<;>cases q
 ·intro q;cases q
theorem exc_factsI{K:PySem.W.Frag}{C R N NR fi:Addr}{nm q x f:Str}{bs bmB:List Value}{sn:List Str}{sub:List Value}{ab:Bool}{col:Option Bool}{dd dR:Option Addr}{k0 k1 k2 k3 k5:Option Value}{newId B:String}{cR:Value}{cdR:ClassData}{slR:Array (Option Value)}{mg:Str->Option Value}{base:Heap}
  (KX:K.In base) (G:base.Ns mainGlobals mg) (e0:PySem.W.nsIn K mainGlobals x=some (some (.ref C))) (lkC:K.lookup C=some (excClassObj nm q C N bs (.ref R::bmB) true sn sub ab col dd k0 k1 k2 k3 k5 newId)) (lkR:K.lookup R=some ⟨cR,dR,.cls cdR,slR⟩)
  (nC:PySem.W.nsOkIn K N=true) (iC:PySem.W.nsIn K N "__init__"=some (some (.ref fi))) (eR:cdR.ns=NR) (nR:PySem.W.nsOkIn K NR=true) (r1:PySem.W.nsIn K NR "__init__"=some none) (r2:PySem.W.nsIn K NR "__getattribute__"=some none) (r3:PySem.W.nsIn K NR "__getattr__"=some none) (r4:PySem.W.nsIn K NR "args"=some none)
  (FB:ExcAttrBase B bmB) (ga:PySem.W.findIn K (.ref C) "__getattribute__"=some (some (.builtin "BaseException.__getattribute__"))) (gt:PySem.W.findIn K (.ref C) "__getattr__"=some none) (sa:PySem.W.findIn K (.ref C) "__setattr__"=some (some (.builtin "object.__setattr__"))) (no:PySem.W.findIn K (.ref C) f=some none)
  (hob:(Value.ref C::.ref R::bmB).contains (.type "object")=true) (pass:∀ self,refuseLoop self "__setattr__" bmB=pure ()):IniCls x C fi bmB newId mg base/\ExcA K C f/\IniK K C f:=by
 subst eR
 have hcl:∃ cd,PySem.W.clsIn K C=some cd/\cd.hasDict=true/\cd.mro=.ref C::.ref R::bmB:=by
  unfold PySem.W.clsIn
  rw [lkC]
  exact⟨_,rfl,rfl,rfl⟩
 obtain⟨cd,c1,c2,c3⟩:=hcl
 refine⟨⟨PySem.W.mg_of KX G e0,?_⟩,⟨ga,gt,no,?_,B,bmB,FB,fun h X=>?_⟩,⟨sa,⟨cd,c1,c2,by rw [c3];exact hob,fun self=>by rw [c3,refuseLoop_ref,refuseLoop_ref];exact pass self⟩,no⟩⟩
 ·exact⟨_,N,nm,q,bs,true,sn,sub,ab,col,dd,k0,k1,k2,k3,k5,_,KX _ _ lkC,Heap.Ns.of_isNs (PySem.W.isNs_of_in KX nC),ns_has KX (Heap.Ns.of_isNs (PySem.W.isNs_of_in KX nC)) iC,.own (KX _ _ lkR) (Heap.Ns.of_isNs (PySem.W.isNs_of_in KX nR)) (PySem.W.nsMap_none_of_in KX nR r1) .base⟩
 ·unfold PySem.W.hasDictIn
  rw [c1]
  exact c2
 ·exact⟨nm,q,N,bs,_,true,sn,sub,ab,col,dd,k0,k1,k2,k3,k5,newId,X _ _ lkC,.own (X _ _ lkR) (Heap.Ns.of_isNs (PySem.W.isNs_of_in X nR))
   (quiet4 (PySem.W.nsMap_none_of_in X nR r1) (PySem.W.nsMap_none_of_in X nR r2) (PySem.W.nsMap_none_of_in X nR r3) (PySem.W.nsMap_none_of_in X nR r4)) .base⟩
end L2
namespace L2
open PySem PySem.Spec PyProof.Rows
def iniS:Stmt->Stmt
 | .ClassDef _ _ _ (b::r) _ _ _ _ _ _ _=>b
 | st=>st
structure UpK (K:PySem.W.Frag) (R:Addr) (initId:String):Prop where
 rd:PySem.W.readsIn K R (.type "type")=true
 sg:PySem.W.specialIn K (.ref R) "__getattribute__"=some (some (.builtin "type.__getattribute__"))
 fc:PySem.W.findCls K (.ref R) (.type "type") "__init__"=some (.val (.builtin initId))
 hh:PySem.W.handedIn (.builtin initId)=true
theorem handed_ve:PySem.W.handedIn (.builtin "ValueError.__init__")=true:=by decide +kernel
structure DefI (P:Program) (w:World) (K:PySem.W.Frag) (mg:Str->Option Value) (base:Heap) (k:Nat) (x:Str) (C:Addr) (f:Str) (ok:V->Hp->Prop):Prop where
 ex:∃ fi fd ps bmB newId B initId,IniCls x C fi bmB newId mg base/\ExcBaseFacts B newId initId bmB/\FnOk P w K mg base CX0 k fi fd ps (spIni C f ok)/\PySem.W.typeIn K (.ref fi)=some (.type "function")/\PySem.W.keepIn K (.ref C)=true/\Binds K fd ps []/\∀ (v:V) (H:Hp) (x:Addr) (o:HO),H x=none->ok v H->ok v (upd H x o)
section
variable {X:Cx}
theorem qpe_initB{xR x:Str}{R C fi:Addr}{bmB:List Value}{B newId initId:String}{e:Expr}{es:List Expr}{t:TA}{p apos pos:Pos}{pl:Sem Bool}(F:ExcBaseFacts B newId initId bmB)(O:IniCls x C fi bmB newId X.mg X.base)(hmR:X.mg xR=some (.ref R))(u:UpK X.K R initId)(hgR:Gl X xR)(ha:QA X (e::es) t)
  (hdb:(xR==("__debug__":Str))=false:=by decide) (hst:starEach (e::es) X.env=(false,eval e X.env)::starEach es X.env:=by rfl) (hpl:(backTo pos (starEach es X.env)).any (·.1)=false:=by rfl)
  (ht:eval (.Call (.Attribute (.Name xR p) "__init__" apos) (e::es) [] pos) X.env=(do
   let ov <-eval (.Name xR p) X.env
   standAt apos.atName
   let (f,fst) <-holding [ov] (getMethod ov "__init__" pl)
   callWith pos f fst (backTo pos (starEach (e::es) X.env)) (backToKw pos (keywordEach [] X.env))):=by rfl) :
  QE X (.Call (.Attribute (.Name xR p) "__init__" apos) (e::es) [] pos) (tInitB C t):=⟨pe_initB F O hgR hmR u.rd u.sg u.fc u.hh ha.h hdb hst hpl ht⟩
theorem qps_setE{o value:Expr}{f:Str}{C:Addr}{pos pos':Pos}{ta tv:TE}(k:IniK X.K C f)(ha:QE X o ta)(hv:QE X value tv)(hs:swapsWith value (some (.Attribute o f pos')) pos.line X.env=pure false:=by rfl):QS X (.Assign [.Attribute o f pos'] value pos) (sFldE C f ta tv):=⟨ps_setE k ha.h hv.h hs⟩
theorem qps_raiseI{k:Nat}{x f:Str}{ok:V->Hp->Prop}{C:Addr}{E:XK}{e:Expr}{es:List Expr}{t:TA}{np cpos pos:Pos}(R:RaisV X E)(D:DefI X.prog X.w X.K X.mg X.base k x C f ok)(hr:Room (k+1) X.A)(hg:Gl X x)(ha:QA X (e::es) t)
  (hdb:(x==("__debug__":Str))=false:=by decide) (he:starEach (e::es) X.env=(false,eval e X.env)::starEach es X.env:=by rfl) (hpl:(backTo cpos (starEach es X.env)).any (·.1)=false:=by rfl) :
  QS X (.Raise (some (.Call (.Name x np) (e::es) [] cpos)) none pos) (tRaiseV C f ok E t):=by
 obtain⟨fi,fd,ps,bmB,newId,B,initId,O,F,G,ty,kp,b,hok⟩:=D.ex
 exact⟨ps_raiseV R O F G ty kp b hok hr hg ha.h hdb he hpl⟩
end
section
variable {σ:St} {H:Hp} {Q:VK} {D:Ends}
theorem w_initB{C:Addr}{t:TA}:tInitB C t σ H Q=t σ H fun vs H1=>∃ e v,vs=[.ref e,v]/\H1 e=some (selfO none C e)/\Q .non H1:=rfl
theorem w_setE{C:Addr}{f:Str}{ta tv:TE}:sFldE C f ta tv D σ H=tv σ H fun y H1=>ta σ H1 fun x H2=>∃ e,x=.ref e/\H2 e=some (selfO none C e)/\∀ dx,H2 dx=none->dx≠e->D.nx σ (upd (upd H2 dx (.xd [(f,y)])) e (selfO (some dx) C e)):=rfl
theorem w_raiseV{C:Addr}{f:Str}{ok:V->Hp->Prop}{E:XK}{t:TA}:tRaiseV C f ok E t D σ H=t σ H fun vs H1=>∃ v,vs=[v]/\ok v H1/\∀ dx,H1 dx=none->E (.ref C) (some dx) (upd H1 dx (.xd [(f,v)])):=rfl
theorem w_excA{K:PySem.W.Frag}{f:Str}{ta:TE}:tExcA K f ta σ H Q=ta σ H fun x H1=>∃ a C dx v,x=.ref a/\H1 a=some (excD (some dx) C a)/\H1 dx=some (.xd [(f,v)])/\ExcA K C f/\Q v H1:=rfl
end
end L2
namespace L2
open PySem PySem.Spec PyProof.Rows
theorem vals_refs:∀ {cs:List Addr} {us:List Value},Vals (cs.map V.ref) us->us=cs.map Value.ref
 | [],_,.nil=>rfl
 | c::cs,_,.cons r t=>by
  rw [vals_refs t]
  cases r
  rfl
end L2
namespace L2
open PySem PySem.Spec PyProof.Rows
def okC(v:V)(H:Hp):Prop:=∃ a d,v=.ref a/\Dat H v d/\d.showable=true/\d.hasDict=false/\d.depth<=10/\d.shown.length<=500
theorem okC_stay:∀ (v:V) (H:Hp) (x:Addr) (o:HO),H x=none->okC v H->okC v (upd H x o):=fun _ H _ _ hn ⟨a,d,e,h,r⟩=>⟨a,d,e,h.same ((Same.refl H).new hn),r⟩
theorem tt2(x y:Str):(tupleText [x,y]).length<=x.length+y.length+7:=by
 have:=tupleText_len_le [x,y]
 simp only [List.map_cons,List.map_nil,List.sum_cons,List.sum_nil,List.length_cons,List.length_nil] at this
 omega
abbrev pB (a b:Int):PyData:=.tuple [.int a,.int b]
theorem shownInt{a:Int}(h0:0<=a)(h1:a<=60):(PyData.shown (.int a)).length<=2/\PyData.showable (.int a)=true:=by
 obtain⟨n,rfl⟩:=Int.eq_ofNat_of_zero_le h0
 obtain⟨e1,e2⟩:=num_short n (by omega)
 exact⟨e1,by simp only [PyData.showable];exact decide_eq_true e2⟩
theorem shownBow{a b:Int}(a0:0<=a)(a1:a<=60)(b0:0<=b)(b1:b<=60):(PyData.shown (pB a b)).length<=11/\PyData.showable (pB a b)=true:=by
 obtain⟨x1,x2⟩:=shownInt a0 a1
 obtain⟨y1,y2⟩:=shownInt b0 b1
 refine⟨?_,?_⟩
 ·show (tupleText [PyData.shown (.int a),PyData.shown (.int b)]).length<=11
  have:=tt2 (PyData.shown (.int a)) (PyData.shown (.int b));omega
 ·show (PyData.showable (.int a)&&(PyData.showable (.int b)&&true))=true
  rw [x2,y2];rfl
theorem okC_two{H:Hp}{p:Addr}{a b c d:Int}(h:Dat H (.ref p) (.tuple [pB a b,pB c d]))(a0:0<=a)(a1:a<=60)(b0:0<=b)(b1:b<=60)(c0:0<=c)(c1:c<=60)(d0:0<=d)(d1:d<=60):okC (.ref p) H:=by
 obtain⟨x1,x2⟩:=shownBow a0 a1 b0 b1
 obtain⟨y1,y2⟩:=shownBow c0 c1 d0 d1
 refine⟨p,_,rfl,h,?_,rfl,by simp [PyData.depth,PyData.depthAll],?_⟩
 ·show (PyData.showable (pB a b)&&(PyData.showable (pB c d)&&true))=true
  rw [x2,y2];rfl
 ·show (tupleText [PyData.shown (pB a b),PyData.shown (pB c d)]).length<=500
  have:=tt2 (PyData.shown (pB a b)) (PyData.shown (pB c d));omega
def tFsR(ta tb:TE):TE:=fun σ H Q=>ta σ H fun x H1=>∃ c,x=.str c/\c.length<=400/\tb σ H1 fun y H2=>okC y H2/\∀ z,Q (.str z) H2
section
variable {X:Cx}
theorem pe_fsR{k:Nat}{v1 v2:Expr}{fpos pos:Pos}{ta tb:TE}(hr:Room k X.A)(ha:PE X v1 ta)(hb:PE X v2 tb):PE X (.JoinedStr [v1,.FormattedValue v2 114 none fpos] pos) (tFsR ta tb):=by
 intro pins s σ H Q I h
 refine JoinedStr_many (joinParts_cons (thn (ha pins s σ H _ I h) fun u s1 ⟨x,H1,I1,rx,c,ex,hc,q⟩=>?_))
 subst ex
 obtain⟨tk,rfl⟩:∃ tk,u=Value.str c tk:=rx
 have l0:(Str.empty++c).length=c.length:=by rw [strLen_append];exact Nat.zero_add _
 refine⟨by rw [l0];exact Nat.le_of_lt (small1000 (by omega)),joinParts_cons (wpAny_FormattedValue_repr (thn (hb pins s1 σ H1 _ I1 q) fun u2 s2 ⟨y,H2,I2,ry,ok,q2⟩=>?_))⟩
 obtain⟨a,d,rfl,hd,h1,h2,h3,h4⟩:=ok
 obtain rfl:u2=Value.ref a:=ry
 obtain⟨as,r⟩:=(hd.rep (K:=X.K)).reads I2 rfl
 refine pyReprObj_of_reads r h1 (PyData.noDict_hsm h2) hr.gd (by have:=hr.un;omega) (fun _ _ e=>e) (fun h' u tk hk=>?_) (Nat.le_of_lt (small1000 (by omega)))
 have l1:((Str.empty++c)++d.shown).length<=sizeLine:=by rw [strLen_append,l0];exact Nat.le_of_lt (small1000 (by omega))
 exact wpAny_formatField_str ⟨l1,joinParts_nil ⟨.str ((Str.empty++c)++d.shown),H2,I2.kept hk,⟨_,rfl⟩,q2 _⟩ l1⟩ ⟨l1,joinParts_nil ⟨.str ((Str.empty++c)++d.shown),H2,I2.kept hk,⟨_,rfl⟩,q2 _⟩ l1⟩ (Nat.le_of_lt (small1000 (by omega)))
theorem qpe_fsR{k:Nat}{v1 v2:Expr}{fpos pos:Pos}{ta tb:TE}(hr:Room k X.A)(ha:QE X v1 ta)(hb:QE X v2 tb):QE X (.JoinedStr [v1,.FormattedValue v2 114 none fpos] pos) (tFsR ta tb):=⟨pe_fsR hr ha.h hb.h⟩
end
theorem w_fsR{σ:St}{H:Hp}{Q:VK}{ta tb:TE}:tFsR ta tb σ H Q=ta σ H fun x H1=>∃ c,x=.str c/\c.length<=400/\tb σ H1 fun y H2=>okC y H2/\∀ z,Q (.str z) H2:=rfl
structure ExcKD (K:PySem.W.Frag) (C:Addr):Prop where
 ga:PySem.W.findIn K (.ref C) "__getattribute__"=some (some (.builtin "BaseException.__getattribute__"))
 gt:PySem.W.findIn K (.ref C) "__getattr__"=some none
 fo:∀ od:Obj,PySem.W.findObj K C (some od) "__class__"=some (.bind (.builtin "getset_descriptor.__get__") (.builtin "object.__class__"))
 mro:PySem.W.mroIn K C (.type "object")=some true
 lk:∃ c dd cd sl,K.lookup C=some ⟨c,dd,.cls cd,sl⟩
 own:∃ B bmB,ExcAttrBase B bmB/\∀ h:Heap,K.In h->∃ nm q N bs bm hdct sn sub ab col dd k0 k1 k2 k3 k5 newId,h.get? C=some (excClassObj nm q C N bs bm hdct sn sub ab col dd k0 k1 k2 k3 k5 newId)/\OwnTailQ h bmB bm
structure JstD (K:PySem.W.Frag) (C:Addr) (ds:List Addr) (due:Nat):Prop where
 kit:∀ j d,ds[j]? = some d->PySem.W.kitOne K (.ref C) (.ref d)=some (decide (j=due))
 val:PySem.W.kitOne K (.ref C) (.type "ValueError")=some true
theorem excKD_of{K:PySem.W.Frag}{C R N NR:Addr}{nm q:Str}{bs bmB:List Value}{hdct:Bool}{sn:List Str}{sub:List Value}{ab:Bool}{col:Option Bool}{dd dR:Option Addr}{k0 k1 k2 k3 k5:Option Value}{newId:String}{cR:Value}{cdR:ClassData}{slR:Array (Option Value)}{f:Str}
  (lkC:K.lookup C=some (excClassObj nm q C N bs (.ref R::bmB) hdct sn sub ab col dd k0 k1 k2 k3 k5 newId)) (A:ExcA K C f) (gc:PySem.W.findIn K (.ref C) "__class__"=some (some (.builtin "object.__class__")))
  (sp:PySem.W.specialIn K (.builtin "object.__class__") "__get__"=some (some (.builtin "getset_descriptor.__get__"))) (tk:PySem.W.takesIn K (.builtin "object.__class__")=some true) (mr:PySem.W.mroIn K C (.type "object")=some true):ExcKD K C:=
 ⟨A.ga,A.gt,fun od=>PySem.W.findObj_data (by unfold PySem.W.clsIn;rw [lkC];rfl) gc sp tk,mr,⟨_,_,_,_,lkC⟩,A.own⟩
end L2
namespace Rm
open PySem L2 PyProof.Rows
def bwD(p:Bw):PyData:=pB p.1 p.2
theorem bwD_eqv(p q:Bw):PyData.eqv (bwD p) (bwD q)=decide (p=q):=by
 show PyData.eqvAll ([p.1,p.2].map PyData.int) ([q.1,q.2].map PyData.int)=_
 rw [ints_eqv]
 refine decide_eq_decide.mpr ⟨fun h=>?_,fun h=>by rw [h]⟩
 simp only [List.cons.injEq,and_true] at h
 exact Prod.ext h.1 h.2
theorem tup_bw{H:Hp}{a:Addr}{p:Bw}(h:tupAt H a p):Dat H (.ref a) (bwD p):=.tup h (.cons (.int _) (.cons (.int _) .nil))
theorem bws_dat{H:Hp}{as:List Addr}{ps:List Bw}(h:Paired (tupAt H) as ps):DatL H (as.map V.ref) (ps.map bwD):=by
 induction h with
 | nil=>exact .nil
 | cons r _ ih=>exact .cons (tup_bw r) ih
theorem bwD_pl(p:Bw){k:Nat}:Pl (bwD p) (k+1):=pl_tup (pl2 (pl_int _) (pl_int _))
end Rm
namespace Rm
open PySem L2
theorem pair_get{α β:Type}{F:α->β->Prop}{l:List α}{m:List β}(h:Paired F l m):∀ {i:Nat} {a:α},l[i]? = some a->∃ b,m[i]? = some b/\F a b:=by
 induction h with
 | nil=>intro i a h;simp at h
 | cons r _ ih=>
  intro i a h
  cases i with
  | zero=>cases h;exact⟨_,rfl,r⟩
  | succ i=>exact ih h
end Rm
namespace L2
open PySem PySem.Spec PyProof.Rows
structure QB (X:Cx) (body:List Stmt) (tb:XK->TS):Prop where
 h:∀ (pins:List (Addr×Obj)) (s:Shared) (σ:St) (H:Hp) (D:Ends) (E:XK),Inv X pins σ H s->tb E D σ H->wpAny (model X.prog X.w) X.A (execs body X.env) (SP X pins D) (fun ev s'=>∃ H1 s1,Inv X pins σ H1 s1/\CXx X.prog X.w X.stack H1 s1 E ev s') s
structure LandF (X:Cx) (pins:List (Addr×Obj)) (σ:St) (a C t0:Addr) (dO:Option Addr) (H2:Hp) (s':Shared) (h3:Heap):Prop where
 ex:∃ (B:Heap) (H1:Hp) (s1:Shared),Inv X pins σ H1 s1/\s'.os=s1.os/\AllBare s'.gens/\Un (frs X.stack) [] H1 H2 s1.heap s'.heap/\HOk X.prog X.w H2 s'.heap/\B.FlyingW X.stack a (.ref C) (.ref t0) s'.heap/\Cov B s1.heap H2 X.stack/\B.FlyingW (X.env::X.outer) a (.ref C) (.ref t0) h3/\s'.heap.UpToSlots h3/\CtD dO a h3
abbrev TH:=Ends->St->Addr->Option Addr->Hp->Prop
structure QH (X:Cx) (hs:List ExceptHandler) (th:TH):Prop where
 h:∀ (pins:List (Addr×Obj)) (σ:St) (D:Ends) (a C t0:Addr) (dO:Option Addr) (H2:Hp) (s':Shared) (h3:Heap),LandF X pins σ a C t0 dO H2 s' h3->H2 a=none->th D σ C dO H2->wpAny (model X.prog X.w) X.A (handleBy (.ref a) X.env hs) (SP X pins D) X.xe { s' with heap:=h3 }
def hNil:TH:=fun _ _ _ _ _=>False
def hCons(K:PySem.W.Frag)(c:Value)(ts:Addr->TS)(th:TH):TH:=fun D σ C dO H2=>(PySem.W.exmOne K (.ref C) c=some true/\∀ a,H2 a=none->ts a D σ (upd H2 a (excD dO C a)))\/(PySem.W.exmOne K (.ref C) c=some false/\th D σ C dO H2)
def hAs(K:PySem.W.Frag)(c:Value)(i:Nat)(ts:Addr->TS)(th:TH):TH:=fun D σ C dO H2=>(PySem.W.exmOne K (.ref C) c=some true/\∀ a,H2 a=none->ts a { nx:=fun σ' H'=>D.nx (σ'.set i none) H',rt:=D.rt,bk:=fun σ' H'=>D.bk (σ'.set i none) H',ct:=fun σ' H'=>D.ct (σ'.set i none) H' } (σ.set i (some (.ref a))) (upd H2 a (excD dO C a)))\/(PySem.W.exmOne K (.ref C) c=some false/\th D σ C dO H2)
section
variable {X:Cx}
theorem qh_nil:QH X [] hNil:=⟨fun _ _ _ _ _ _ _ _ _ _ _ _ h=>h.elim⟩
theorem LandF.inv{pins:List (Addr×Obj)}{σ:St}{a C t0:Addr}{dO:Option Addr}{H2:Hp}{s':Shared}{h3:Heap}(hst:X.stack=X.env::X.outer)(L:LandF X pins σ a C t0 dO H2 s' h3):Inv X pins σ (upd H2 a (excD dO C a)) { s' with heap:=h3 }/\∃ oe,h3.get? a=some oe/\oe.cls=.ref C:=by
 obtain⟨B,H1,s1,I1,os,bare,un,hok,fl,cov,fl3,up3,ct3⟩:=L.ex
 have fl3':=fl3
 rw [<-hst] at fl3'
 exact⟨I1.land (E:=E0) os bare un hok fl cov fl3' up3 ct3,Heap.FlyingW.there fl3⟩
theorem qh_cons {cx:Str} {c:Value} {b₀:Stmt} {suite:List Stmt} {ts:Addr->TS} {th:TH} {hs:List ExceptHandler} {np hpos:Pos} (hst:X.stack=X.env::X.outer) (hgc:Gl X cx) (hmc:X.mg cx=some c) (hsu:∀ a,QSs (X.exc a) (b₀::suite) (ts a)) (hh:QH X hs th) (hdc:(cx==("__debug__":Str))=false:=by decide) :
  QH X (.ExceptHandler (some (.Name cx np)) none (b₀::suite) hpos::hs) (hCons X.K c ts th):=⟨by
 intro pins σ D a C t0 dO H2 s' h3 L Hn hq
 obtain⟨I3,oe,e1,e2⟩:=L.inv hst
 refine wpAny_handleBy_cons (codeAny_handlers_test (ld_glob (X:=X.exc a) (I3.exc a) hgc hmc ?_ hdc)) (fun z=>nomatch z)
 rcases hq with ⟨hx,q⟩ | ⟨hx,q⟩
 ·refine PySem.W.exm_one (K:=X.K) (h:=h3) (cls:=.ref C) I3.kIn (fun A Q E s k hq=>wpAny_typeOf_ref (k _ _ e1) (by rw [e2];exact hq)) hx _ _ _ _ (fun b o e=>e) ?_
  obtain⟨B,H1,s1,I1,os,bare,un,hok,fl,cov,fl3,up3,ct3⟩:=L.ex
  refine codeAny_handlers_suite (wpAny_pres (Pres.flight (e:=a)) ct3 (lands_againW fl3 fun h4 fl4 up4 ct4=>?_))
  have fl4':=fl4
  rw [<-hst] at fl4'
  have I4:Inv X pins σ (upd H2 a (excD dO C a)) { s' with heap:=h4 }:=I1.land (E:=E0) os bare un hok fl cov fl4' (UpToSlots.trans up3 up4) ct4
  refine wpAny_mono ((hsu a).h pins _ _ _ _ (I4.exc a) (q a Hn)) (fun fw s6 h6=>?_) (fun _ _ z=>False.elim z)
  obtain⟨B',H1',s1',I1',_⟩:=L.ex
  cases fw with
  | next=>obtain⟨σ6,H6,I6,q6⟩:=h6;exact⟨_,_,I6.unexc I1.ok,q6⟩
  | brk=>obtain⟨σ6,H6,I6,q6⟩:=h6;exact⟨_,_,I6.unexc I1.ok,q6⟩
  | cont=>obtain⟨σ6,H6,I6,q6⟩:=h6;exact⟨_,_,I6.unexc I1.ok,q6⟩
  | ret u=>obtain⟨v6,σ6,H6,I6,r6,q6⟩:=h6;exact⟨v6,_,_,I6.unexc I1.ok,r6,q6⟩
 ·refine PySem.W.exm_one (K:=X.K) (h:=h3) (cls:=.ref C) I3.kIn (fun A Q E s k hq=>wpAny_typeOf_ref (k _ _ e1) (by rw [e2];exact hq)) hx _ _ _ _ (fun b o e=>e) ?_
  exact hh.h pins σ D a C t0 dO H2 s' h3 L Hn q⟩
def tTryG(tb:XK->TS)(th:TH):TS:=fun D σ H=>tb (fun cls dO H2=>∃ C,cls=Value.ref C/\th D σ C dO H2) D σ H
theorem qps_tryG{body:List Stmt}{h₀:ExceptHandler}{hs:List ExceptHandler}{tb:XK->TS}{th:TH}{pos:Pos}(hst:X.stack=X.env::X.outer)(hfr:X.env.frame=some X.env.locals)(hb:QB X body tb)(hh:QH X (h₀::hs) th):QS X (.Try body (h₀::hs) [] [] pos) (tTryG tb th):=⟨by
 intro pins s σ H D I h
 refine wpAny_Try_except (wpAny_mono (hb.h pins s σ H D _ I h) (fun f s1 h1=>?_) fun ev s' ⟨H1,s1,I1,hx⟩=>?_)
 ·cases f with
  | next=>exact wpAny_execs_nil h1
  | brk=>exact h1
  | cont=>exact h1
  | ret u=>exact h1
 ·obtain⟨a,C,t0,H2,B,dO,rfl,os,bare,un,hok,fl,cov,ct,C',eC,q⟩:=hx
  cases eC
  have Hn:H2 a=none:=by
   cases z:H2 a with
   | none=>rfl
   | some u=>
    obtain⟨o,e'⟩:=cov.trk a u z
    rw [fl.2.1] at e';cases e'
  have fl':=fl
  rw [hst] at fl'
  refine wpAny_pres (Pres.note (e:=a)) ct ?_
  refine wpAny_looks_onW (base:=B) (env:=X.env) (outer:=X.outer) (by rw [I.ok.frames,hst]) hfr fl' fun h2 held up2 ct2=>?_
  refine wpAny_pres (Pres.flight (e:=a)) ct2 ?_
  refine wpAny_landsW held fun h3 fl3 up3 ct3=>?_
  exact hh.h pins σ D a C t0 dO H2 s' h3 ⟨B,H1,s1,I1,os,bare,un,hok,fl,cov,fl3,UpToSlots.trans up2 up3,ct3⟩ Hn q⟩
theorem call_run{k:Nat}{st:Stmt}{ps:List Str}{sp:Sp}{x:Str}{e:Expr}{es:List Expr}{t:TA}{p cpos:Pos}{pins:List (Addr×Obj)}{s:Shared}{σ:St}{H:Hp}{Q:VK}{E:XK}(Df:DefX X.prog X.w X.K X.mg X.base k x st ps sp)(hr:Room k X.A)(hg:Gl X x)(ha:QA X.nox (e::es) t)(I:Inv X pins σ H s)(h:t σ H fun vs H1=>sp vs H1 Q E)
  (hdb:(x==("__debug__":Str))=false) (he:starEach (e::es) X.env=(false,eval e X.env)::starEach es X.env) (hpl:(backTo cpos (starEach es X.env)).any (·.1)=false) :
  wpAny (model X.prog X.w) X.A (eval (.Call (.Name x p) (e::es) [] cpos) X.env) (EP X pins σ Q) (fun ev s'=>∃ H1 s1,Inv X pins σ H1 s1/\CXx X.prog X.w X.stack H1 s1 E ev s') s:=by
 obtain⟨f,fd,Fu,hm,hb,F⟩:=Df.ex
 have hk:=Fu.kp
 refine wpAny_Call_Name_kw (ld_glob I hg hm ?_ hdb)
 refine PySem.W.callWith_K (h₀:=X.base) I.ok.mod.kin hk (wpAny_mono (ha.h cpos pins s σ H _ (I.wish _) h) (fun us s1 ⟨vs,H1,I1,r,q⟩=>⟨I1.kIn,?_⟩) fun _ _ z=>False.elim z) he hpl
 have I1:=I1.unwish
 have r2:Vals (vs++[]) (us++[]):=r.append .nil
 have q2:sp (vs++[]) H1 Q E:=by rw [List.append_nil];exact q
 have hlen:(us++[]).length=ps.length:=by rw [<-r2.length];exact F.len _ _ _ _ q2
 refine wpAny_call (codeAny_mono (F.run X.A X.stack s1 H1 ⟨us,[]⟩ (us++[]) (vs++[]) _ E hr I1.env0 (hb s1 us I1.kIn hlen) r2 q2) fun r s' hq=>?_)
 cases r with
 | error ev=>exact⟨H1,s1,I1,hq⟩
 | ok fl=>
  cases fl with
  | ret u=>exact I1.after hq
  | next=>exact False.elim hq
  | brk=>exact False.elim hq
  | cont=>exact False.elim hq
section
variable {k:Nat} {st:Stmt} {ps:List Str} {sp:Sp} {x:Str} {e:Expr} {es:List Expr} {t:TA} {p cpos:Pos}
def bExpr(sp:Sp)(t:TA):XK->TS:=fun E D σ H=>t σ H fun vs H1=>sp vs H1 (fun _ H2=>D.nx σ H2) E
def bAsg(sp:Sp)(j:Nat)(t:TA):XK->TS:=fun E D σ H=>t σ H fun vs H1=>sp vs H1 (fun v H2=>D.nx (σ.set j (some v)) H2) E
def bTup(sp:Sp)(z:Str)(t:TA):XK->TS:=fun E D σ H=>t σ H fun vs H1=>sp vs H1 (fun v H2=>∀ q,H2 q=none->D.rt (.ref q) (upd H2 q (.tup [.str z,v]))) E
def bLst(sp:Sp)(z:Str)(t:TA):XK->TS:=fun E D σ H=>t σ H fun vs H1=>sp vs H1 (fun v H2=>∀ q,H2 q=none->D.rt (.ref q) (upd H2 q (.lst [.str z,v]))) E
theorem qb_asg{y:Str}{j:Nat}{yp epos:Pos}(Df:DefX X.prog X.w X.K X.mg X.base k x st ps sp)(hr:Room k X.A)(hg:Gl X x)(ha:QA X.nox (e::es) t)(hN:X.N.Nodup)(hj:X.N[j]? = some y)(hy:X.env.scope.names.lookup y=some .local)
  (hsw:swapsWith (.Call (.Name x p) (e::es) [] cpos) (some (.Name y yp)) epos.line X.env=pure false:=by rfl) (hdb:(x==("__debug__":Str))=false:=by decide) (he:starEach (e::es) X.env=(false,eval e X.env)::starEach es X.env:=by rfl) (hpl:(backTo cpos (starEach es X.env)).any (·.1)=false:=by rfl):QB X [.Assign [.Name y yp] (.Call (.Name x p) (e::es) [] cpos) epos] (bAsg sp j t):=⟨fun pins s σ H D E I h=>
 wpAny_execs_cons (wpAny_Assign_Name (wpAny_mono (call_run Df hr hg ha I h hdb he hpl) (fun v s1 ⟨_,H1,I1,r1,q⟩=>store_ok I1 hN hj (.inl hy) r1 (fun s2 I2=>wpAny_execs_nil ⟨_,H1,I2,q⟩) (.inr hy)) fun _ _ z=>z) hsw)⟩
end
end
section
variable {σ:St} {H H2:Hp} {D:Ends} {E:XK} {C:Addr} {dO:Option Addr} {K:PySem.W.Frag} {c:Value} {sp:Sp} {t:TA} {ts:Addr->TS} {th:TH} {tb:XK->TS} {z:Str} {i j:Nat}
theorem w_tryG:tTryG tb th D σ H=tb (fun cls dO H2=>∃ C,cls=Value.ref C/\th D σ C dO H2) D σ H:=rfl
theorem w_hNil:hNil D σ C dO H2=False:=rfl
theorem w_hCons:hCons K c ts th D σ C dO H2=((PySem.W.exmOne K (.ref C) c=some true/\∀ a,H2 a=none->ts a D σ (upd H2 a (excD dO C a)))\/(PySem.W.exmOne K (.ref C) c=some false/\th D σ C dO H2)):=rfl
theorem w_hAs:hAs K c i ts th D σ C dO H2=((PySem.W.exmOne K (.ref C) c=some true/\∀ a,H2 a=none->ts a { nx:=fun σ' H'=>D.nx (σ'.set i none) H',rt:=D.rt,bk:=fun σ' H'=>D.bk (σ'.set i none) H',ct:=fun σ' H'=>D.ct (σ'.set i none) H' } (σ.set i (some (.ref a))) (upd H2 a (excD dO C a)))\/(PySem.W.exmOne K (.ref C) c=some false/\th D σ C dO H2)):=rfl
theorem w_bExpr:bExpr sp t E D σ H=t σ H fun vs H1=>sp vs H1 (fun _ H2=>D.nx σ H2) E:=rfl
theorem w_bAsg:bAsg sp j t E D σ H=t σ H fun vs H1=>sp vs H1 (fun v H2=>D.nx (σ.set j (some v)) H2) E:=rfl
theorem w_bTup:bTup sp z t E D σ H=t σ H fun vs H1=>sp vs H1 (fun v H2=>∀ q,H2 q=none->D.rt (.ref q) (upd H2 q (.tup [.str z,v]))) E:=rfl
theorem w_bLst:bLst sp z t E D σ H=t σ H fun vs H1=>sp vs H1 (fun v H2=>∀ q,H2 q=none->D.rt (.ref q) (upd H2 q (.lst [.str z,v]))) E:=rfl
end
end L2
namespace Rm
open PySem L2 PyProof.Rows
abbrev Nw:=Nat×Nat
def lwN(q p:Nw):Bool:=decide (p.1<q.1)&&decide (q.2<p.2)
def turnN(p q:Nw):List Nw:=if lwN q p then [(p.1,q.1),(q.2,p.2)] else [(p.1,q.2),(p.2,q.1)]
def atN(ms:List Nw)(i:Nat):Nw:=ms.getD i (0,0)
def offN(ms:List Nw)(i j:Nat)(p:Nw):Bool:=!(decide (p=atN ms i) || decide (p=atN ms j))
def otN(ms:List Nw)(i j:Nat):List Nw:=ms.filter (offN ms i j)
def trnF(ms:List Nw)(i j:Nat):List Nw:=otN ms i j++turnN (atN ms i) (atN ms j)
theorem atN_get{ms:List Nw}{i:Nat}(h:i<ms.length):ms[i]? = some (atN ms i):=by
 unfold atN
 rw [List.getD_eq_getElem?_getD,List.getElem?_eq_getElem h];rfl
theorem atN_mem{ms:List Nw}{i:Nat}(h:i<ms.length):atN ms i∈ms:=List.mem_of_getElem? (atN_get h)
theorem Mates.nodup{bs:List Bool}{k:Nat}{ms:List Nw}(M:Mates bs k ms):ms.Nodup:=M.inc.imp fun {a b} h e=>by rw [e] at h;omega
theorem atN_inj{bs:List Bool}{k:Nat}{ms:List Nw}(M:Mates bs k ms){i j:Nat}(hi:i<ms.length)(hj:j<ms.length)(e:atN ms i=atN ms j):i=j:=by
 have h1:=List.getElem?_eq_some_iff.mp (atN_get hi)
 have h2:=List.getElem?_eq_some_iff.mp (atN_get hj)
 exact (List.getElem_inj M.nodup (h₀:=h1.1) (h₁:=h2.1)).mp (h1.2.trans (e.trans h2.2.symm))
theorem atN_lt{bs:List Bool}{k:Nat}{ms:List Nw}(M:Mates bs k ms){i j:Nat}(hij:i<j)(hj:j<ms.length):(atN ms i).1<(atN ms j).1:=by
 have h1:=List.getElem?_eq_some_iff.mp (atN_get (ms:=ms) (i:=i) (by omega))
 have h2:=List.getElem?_eq_some_iff.mp (atN_get hj)
 have:=List.pairwise_iff_getElem.mp M.inc i j h1.1 h2.1 hij
 rw [h1.2,h2.2] at this
 exact this
theorem two_cases{bs:List Bool}{k:Nat}{ms:List Nw}(M:Mates bs k ms){i j:Nat}(hij:i<j)(hj:j<ms.length):
  let p:=atN ms i;let q:=atN ms j;p.1<q.1/\q.1<q.2/\p.1<p.2/\((lwN q p=true/\q.2<p.2)\/(lwN q p=false/\p.2<q.1)):=by
 intro p q
 have lt:=atN_lt M hij hj
 have mp:=(M.mate _ (atN_mem (ms:=ms) (i:=i) (by omega))).1
 have mq:=(M.mate _ (atN_mem hj)).1
 have nc:=mp.noCross mq
 have ne:p.2≠q.2:=fun e=>by
  have mp':=mp
  rw [show (atN ms i).2=(atN ms j).2 from e] at mp'
  have:=mp'.uniqL mq
  omega
 have ne2:p.2≠q.1:=fun e=>by
  have h1:=mp.cl
  have h2:=mq.op
  rw [show (atN ms i).2=(atN ms j).1 from e,h2] at h1
  cases h1
 have l1:=mp.lt
 have l2:=mq.lt
 refine⟨lt,l2,l1,?_⟩
 unfold lwN
 rw [show decide ((atN ms i).1<(atN ms j).1)=true from decide_eq_true lt,Bool.true_and]
 by_cases h:q.2<p.2
 ·exact .inl ⟨decide_eq_true h,h⟩
 ·refine .inr ⟨decide_eq_false h,?_⟩
  show (atN ms i).2<(atN ms j).1
  have:¬ (atN ms j).2<(atN ms i).2:=h
  have:(atN ms i).2≠(atN ms j).2:=ne
  have:(atN ms i).2≠(atN ms j).1:=ne2
  omega
theorem perm_two_out{ms:List Nw}(nd:ms.Nodup){p q:Nw}(hp:p∈ms)(hq:q∈ms)(ne:p≠q):ms.Perm (p::q::ms.filter fun x=>!(decide (x=p) || decide (x=q))):=by
 rw [List.perm_iff_count]
 intro x
 have ndf:(ms.filter fun x=>!(decide (x=p) || decide (x=q))).Nodup:=nd.filter _
 rw [List.count_cons,List.count_cons,nd.count,ndf.count]
 by_cases h:x∈ms
 ·rw [if_pos h]
  by_cases e1:x=p
  ·subst e1
   have:¬ (q==x)=true:=by simp;exact fun z=>ne z.symm
   simp [this]
  ·by_cases e2:x=q
   ·subst e2
    have:¬ (p==x)=true:=by simp;exact fun z=>ne z
    simp [this]
   ·have h1:¬ (q==x)=true:=by simp;exact fun z=>e2 z.symm
    have h2:¬ (p==x)=true:=by simp;exact fun z=>e1 z.symm
    simp [h,e1,e2,h1,h2]
 ·have e1:¬ p=x:=fun z=>h (z▸hp)
  have e2:¬ q=x:=fun z=>h (z▸hq)
  simp [h,e1,e2]
theorem trn_perm{bs:List Bool}{k:Nat}{ms:List Nw}(M:Mates bs k ms){i j:Nat}(hij:i<j)(hj:j<ms.length):ms.Perm (atN ms i::atN ms j::otN ms i j):=
 perm_two_out M.nodup (atN_mem (by omega)) (atN_mem hj) fun e=>by have:=atN_inj M (by omega) hj e;omega
theorem trn_len{bs:List Bool}{k:Nat}{ms:List Nw}(M:Mates bs k ms){i j:Nat}(hij:i<j)(hj:j<ms.length):(trnF ms i j).length=ms.length:=by
 have:=(trn_perm M hij hj).length_eq
 simp only [List.length_cons] at this
 unfold trnF
 rw [List.length_append]
 have:(turnN (atN ms i) (atN ms j)).length=2:=by unfold turnN;split<;>rfl
 omega
theorem msZ_app(a b:List Nw):msZ (a++b)=msZ a++msZ b:=by simp [msZ]
theorem msZ_len(a:List Nw):(msZ a).length=a.length:=by simp [msZ]
theorem endsZ_app(a b:List Bw):(endsZ (a++b)).Perm (endsZ a++endsZ b):=by
 unfold endsZ
 rw [List.map_append,List.map_append]
 rw [List.append_assoc,List.append_assoc]
 refine List.Perm.append_left _ ?_
 rw [<-List.append_assoc,<-List.append_assoc]
 exact List.Perm.append_right _ List.perm_append_comm
theorem four_perm{a b c d:Int}:([a,d,c,b]:List Int).Perm [a,c,b,d]:=by
 refine List.Perm.cons a ?_
 exact (List.Perm.swap c d [b]).trans ((List.Perm.swap b d []).cons c)
theorem trn_ends{bs:List Bool}{ms:List Nw}(b:Bal bs)(M:Mates bs bs.length ms){i j:Nat}(hij:i<j)(hj:j<ms.length):(endsZ (msZ (trnF ms i j))).Perm (rngZ 0 bs.length):=by
 refine List.Perm.trans ?_ (mates_ends M b)
 refine List.Perm.trans ?_ (ends_perm ((trn_perm M hij hj).map fun p:Nw=>((p.1:Int),(p.2:Int)))).symm
 unfold trnF
 rw [msZ_app]
 refine (endsZ_app _ _).trans ?_
 have e:(endsZ (List.map (fun p:Nw=>((p.1:Int),(p.2:Int))) (atN ms i::atN ms j::otN ms i j))).Perm (endsZ [((atN ms i).1,(atN ms i).2),((atN ms j).1,(atN ms j).2)]++endsZ (msZ (otN ms i j))):=by
  have:=endsZ_app [(((atN ms i).1:Int),((atN ms i).2:Int)),(((atN ms j).1:Int),((atN ms j).2:Int))] (msZ (otN ms i j))
  exact this
 refine List.Perm.trans ?_ e.symm
 refine List.perm_append_comm.trans (List.Perm.append_right _ ?_)
 unfold turnN
 split
 ·show ([((atN ms i).1:Int),((atN ms j).2:Int),((atN ms j).1:Int),((atN ms i).2:Int)]:List Int).Perm [((atN ms i).1:Int),((atN ms j).1:Int),((atN ms i).2:Int),((atN ms j).2:Int)]
  exact four_perm
 ·show ([((atN ms i).1:Int),((atN ms i).2:Int),((atN ms j).2:Int),((atN ms j).1:Int)]:List Int).Perm [((atN ms i).1:Int),((atN ms j).1:Int),((atN ms i).2:Int),((atN ms j).2:Int)]
  refine List.Perm.cons _ ?_
  refine (List.perm_append_comm (l₁:=[((atN ms i).2:Int),((atN ms j).2:Int)]) (l₂:=[((atN ms j).1:Int)])).trans (.refl _)
theorem trn_lt{bs:List Bool}{k:Nat}{ms:List Nw}(M:Mates bs k ms){i j:Nat}(hij:i<j)(hj:j<ms.length):∀ p∈trnF ms i j,p.1<p.2:=by
 intro p hp
 rcases List.mem_append.mp hp with h | h
 ·exact (M.mate p (List.mem_filter.mp h).1).1.lt
 ·obtain⟨h1,h2,h3,h4⟩:=two_cases M hij hj
  unfold turnN at h
  rcases h4 with ⟨e,h4⟩ | ⟨e,h4⟩
  ·rw [if_pos e] at h
   simp only [List.mem_cons,List.not_mem_nil,or_false] at h
   rcases h with rfl | rfl
   ·exact h1
   ·exact h4
  ·rw [if_neg (by rw [e];decide)] at h
   simp only [List.mem_cons,List.not_mem_nil,or_false] at h
   rcases h with rfl | rfl
   ·exact Nat.lt_trans h3 (Nat.lt_trans h4 h2)
   ·exact h4
theorem trn_fill{bs:List Bool}{ms:List Nw}(b:Bal bs)(M:Mates bs bs.length ms)(hl:bs.length<=40){i j:Nat}(hij:i<j)(hj:j<ms.length):fillsD (bowsD (msZ (trnF ms i j)))=true:=by
 have hc:=M.count b
 have tl:=trn_len M hij hj
 rw [fillsD_bows,msZ_len,decide_eq_true (by omega),Bool.true_and,Bool.and_eq_true]
 refine⟨List.all_eq_true.mpr fun p h=>?_,?_⟩
 ·obtain⟨x,hx,rfl⟩:=mem_msZ h
  have:=trn_lt M hij hj x hx
  exact decide_eq_true (by simp only;omega)
 ·unfold fillZ
  rw [List.isPerm_iff,msZ_len,tl,show 2 * ms.length=bs.length by omega]
  exact trn_ends b M hij hj
theorem trn_bd{bs:List Bool}{ms:List Nw}(b:Bal bs)(M:Mates bs bs.length ms){i j:Nat}(hij:i<j)(hj:j<ms.length):∀ p∈msZ (trnF ms i j),0<=p.1/\p.1<bs.length/\0<=p.2/\p.2<bs.length:=fun p hp=>by
 have h:=trn_ends b M hij hj
 have h1:=mem_rngZ.mp (h.mem_iff.mp (List.mem_append_left _ (List.mem_map.mpr ⟨p,hp,rfl⟩)))
 have h2:=mem_rngZ.mp (h.mem_iff.mp (List.mem_append_right _ (List.mem_map.mpr ⟨p,hp,rfl⟩)))
 exact⟨h1.1,h1.2,h2.1,h2.2⟩
def TwoT(H:Hp)(t:Addr)(p q:Bw):Prop:=∃ a c,H t=some (.tup [.ref a,.ref c])/\tupAt H a p/\tupAt H c q
theorem TwoT.same{H H':Hp}{t:Addr}{p q:Bw}(h:TwoT H t p q)(s:Same H H'):TwoT H' t p q:=by
 obtain⟨a,c,h1,h2,h3⟩:=h
 exact⟨a,c,s _ _ h1,s _ _ h2,s _ _ h3⟩
def twD(p q:Bw):PyData:=.tuple [bwD p,bwD q]
theorem TwoT.dat{H:Hp}{t:Addr}{p q:Bw}(h:TwoT H t p q):Dat H (.ref t) (twD p q):=by
 obtain⟨a,c,h1,h2,h3⟩:=h
 exact .tup h1 (.cons (tup_bw h2) (.cons (tup_bw h3) .nil))
def spTurnOf:Sp:=fun vs H Q _=>∃ a b,∃ p q:Nw,vs=[.ref a,.ref b]/\tupAt H a (p.1,p.2)/\tupAt H b (q.1,q.2)/\∀ l H',H l=none->Same H H'->BowsAt H' l (msZ (turnN p q))->Q (.ref l) H'
def BadN(di dj:PyData)(n:Nat):Prop:=belD dj n=false\/belD di (intOf dj).toNat=false
def spTurned(W B C:Addr):Sp:=fun vs H Q E=>∃ x vi vj,vs=[x,vi,vj] ∧
  ((∃ d,Dat H x d/\TxtOk d/\isWordD d=false/\E (.ref W) none H) ∨
   (∃ bs ms,x=.str (wd bs)/\Bal bs/\bs.length<=40/\Mates bs bs.length ms ∧
     ((∃ di dj,Dat H vi di/\Dat H vj dj/\BadN di dj ms.length/\∀ H',Same H H'->E (.ref B) none H') ∨
      (∃ i j:Nat,vi=.int i/\vj=.int j/\i<j/\j<ms.length ∧
        ((∀ p∈msZ (trnF ms i j),∀ q∈msZ (trnF ms i j),crossZ p q=false)->∀ H',Same H H'->Q (.str (wd (wordB (msZ (trnF ms i j))))) H') ∧
        ∀ p∈msZ (trnF ms i j),∀ q∈msZ (trnF ms i j),crossZ p q=true->∀ t dx H',Same H H'->TwoT H' t p q->H' dx=some (.xd [("bows",.ref t)])->E (.ref C) (some dx) H'))))
theorem TwoT.ok{H:Hp}{t:Addr}{bs:List Bool}{ms:List Nw}{i j:Nat}{p q:Bw}(h:TwoT H t p q)(b:Bal bs)(hl:bs.length<=40)(M:Mates bs bs.length ms)(hij:i<j)(hj:j<ms.length)(hp:p∈msZ (trnF ms i j))(hq:q∈msZ (trnF ms i j)):okC (.ref t) H:=by
 have h1:=trn_bd b M hij hj p hp
 have h2:=trn_bd b M hij hj q hq
 exact okC_two h.dat (by omega) (by omega) (by omega) (by omega) (by omega) (by omega) (by omega) (by omega)
end Rm
namespace Rm
open PySem L2 PyProof.Rows
theorem D_par{bs:List Bool}:∀ i,i<=bs.length->(D bs i - i) % 2=0
 | 0,_=>by rw [D_zero];rfl
 | i+1,h=>by
  have ih:=D_par (bs:=bs) i (by omega)
  rw [D_succ (List.getElem?_eq_getElem (show i<bs.length by omega))]
  cases bs[i] with
  | true=>show (D bs i+1 - ((i+1:Nat):Int)) % 2=0;omega
  | false=>show (D bs i+-1 - ((i+1:Nat):Int)) % 2=0;omega
theorem Mate.par{bs:List Bool}{x y:Nat}(h:Mate bs x y):(x+y) % 2=1:=by
 have h1:=D_par (bs:=bs) (y+1) h.ml
 have h2:=D_par (bs:=bs) x (by have:=h.lt;have:=h.ml;omega)
 rw [h.eq] at h1
 omega
theorem mtF_par{bs:List Bool}(b:Bal bs){x:Nat}(h:x<bs.length):(x+mtF bs x) % 2=1:=by
 rcases mtF_pr b h with m | m
 ·exact m.par
 ·have:=m.par;omega
theorem it_shift(L R:Nat->Nat)(e i:Nat):∀ k,itF L R e (i+k)=itF L R (itF L R e i) k
 | 0=>rfl
 | k+1=>by
  show R (L (itF L R e (i+k)))=R (L (itF L R (itF L R e i) k))
  rw [it_shift L R e i k]
structure Trn (n:Nat) (W M:Nat->Nat) (ms0:List (Nat×Nat)) (p q r s:Nat):Prop where
 pW:Prt n W
 pM:Prt n M
 parW:∀ x,x<n->(x+W x) % 2=1
 parM:∀ x,x<n->(x+M x) % 2=1
 lp:p<n
 lr:r<n
 ne:p≠r
 par:p % 2=r % 2
 ep:M p=q
 er:M r=s
 in0:∀ x,x<n->x % 2=p % 2->x≠p->x≠r->(x,M x)∈ms0\/(M x,x)∈ms0
 of0:∀ e∈ms0,M e.1=e.2/\M e.2=e.1/\e.1<n/\e.2<n/\e.1≠p/\e.1≠q/\e.1≠r/\e.1≠s/\e.2≠p/\e.2≠q/\e.2≠r/\e.2≠s
section
variable {n:Nat} {W M:Nat->Nat} {ms0:List (Nat×Nat)} {p q r s:Nat} {g:List Int}
theorem Trn.lt(T:Trn n W M ms0 p q r s){e:Nat}(h:e<n)(i:Nat):itF M W e i<n:=it_lt T.pM T.pW h i
theorem Trn.pit(T:Trn n W M ms0 p q r s){e:Nat}(h:e<n):∀ i,itF M W e i % 2=e % 2
 | 0=>rfl
 | i+1=>by
  have ih:=T.pit h i
  have h1:=T.parM _ (T.lt h i)
  have h2:=T.parW _ (T.pM.lt _ (T.lt h i))
  show W (M (itF M W e i)) % 2=e % 2
  omega
theorem Trn.step(T:Trn n W M ms0 p q r s)(h:Lab n W ms0 g){x:Nat}(hx:x<n)(px:x % 2=p % 2)(h1:x≠p)(h2:x≠r):gv g (W (M x))=gv g x:=by
 rw [h.left _ (T.pM.lt x hx)]
 rcases T.in0 x hx px h1 h2 with e | e
 ·exact (h.bows _ e).symm
 ·exact h.bows _ e
theorem Trn.chain(T:Trn n W M ms0 p q r s)(h:Lab n W ms0 g){e a:Nat}(he:e<n)(pe:e % 2=p % 2):∀ k,(∀ i,a<=i->i<a+k->itF M W e i≠p/\itF M W e i≠r)->gv g (itF M W e (a+k))=gv g (itF M W e a)
 | 0,_=>rfl
 | k+1,hi=>by
  have ih:=T.chain h he pe k fun i h1 h2=>hi i h1 (by omega)
  have:=hi (a+k) (by omega) (by omega)
  show gv g (W (M (itF M W e (a+k))))=_
  rw [T.step h (T.lt he _) ((T.pit he _).trans pe) this.1 this.2,ih]
theorem Trn.mul{e N:Nat}(h:itF M W e N=e):∀ m,itF M W e (m * N)=e
 | 0=>by rw [Nat.zero_mul];rfl
 | m+1=>by rw [Nat.succ_mul,it_shift,Trn.mul h m];exact h
theorem Trn.far(T:Trn n W M ms0 p q r s)(h:Lab n W ms0 g)(hr:∀ i,itF M W p i≠r):gv g p=gv g q:=by
 obtain⟨N,hN⟩:=per_ex T.pM T.pW T.lp
 have h0:=hN.pos
 have c:=T.chain h (a:=1) T.lp rfl (N - 1) fun i h1 h2=>⟨fun e=>by have:=hN.inj i 0 (by omega) h0 e;omega,hr i⟩
 rw [show 1+(N - 1)=N by omega,hN.back] at c
 rw [c]
 show gv g (W (M p))=_
 rw [h.left _ (T.pM.lt p T.lp),T.ep]
theorem Trn.swap(T:Trn n W M ms0 p q r s):Trn n W M ms0 r s p q:=
 ⟨T.pW,T.pM,T.parW,T.parM,T.lr,T.lp,T.ne.symm,T.par.symm,T.er,T.ep,fun x hx px h1 h2=>T.in0 x hx (px.trans T.par.symm) h2 h1,fun e he=>by obtain⟨a,b,c,d,e1,e2,e3,e4,e5,e6,e7,e8⟩:=T.of0 e he;exact⟨a,b,c,d,e3,e4,e1,e2,e7,e8,e5,e6⟩⟩
theorem Trn.two(T:Trn n W M ms0 p q r s)(h:Lab n W ms0 g):(gv g p=gv g q/\gv g r=gv g s/\gv g p≠gv g r)\/(gv g p=gv g s/\gv g r=gv g q/\gv g p≠gv g r):=by
 obtain⟨N,hN⟩:=per_ex T.pM T.pW T.lp
 have h0:=hN.pos
 have qn:q<n:=by rw [<-T.ep];exact T.pM.lt p T.lp
 have sn:s<n:=by rw [<-T.er];exact T.pM.lt r T.lr
 by_cases hr:∃ i,itF M W p i=r
 ·right
  obtain⟨j,hj,jm⟩:∃ j,itF M W p j=r/\∀ i,i<j->itF M W p i≠r:=by
   obtain⟨i,hi⟩:=hr
   induction i using Nat.strongRecOn with
   | _ i ih=>
    by_cases z:∃ k,k<i/\itF M W p k=r
    ·obtain⟨k,hk,e⟩:=z;exact ih k hk e
    ·exact⟨i,hi,fun k hk e=>z ⟨k,hk,e⟩⟩
  have jp:0<j:=Nat.pos_of_ne_zero fun e=>T.ne (by rw [e] at hj;exact hj)
  have jN:j<N:=by
   rcases Nat.lt_or_ge j N with z | z
   ·exact z
   ·exfalso
    have:=it_shift M W p N (j - N)
    rw [show N+(j - N)=j by omega,hN.back,hj] at this
    exact jm (j - N) (by omega) this.symm
  have nP:∀ i,0<i->i<N->itF M W p i≠p:=fun i h1 h2 e=>by have:=hN.inj i 0 h2 h0 e;omega
  have nR:∀ i,i<N->i≠j->itF M W p i≠r:=fun i h1 h2 e=>h2 (hN.inj i j h1 jN (e.trans hj.symm))
  have c1:=T.chain h (a:=1) T.lp rfl (j - 1) fun i h1 h2=>⟨nP i (by omega) (by omega),nR i (by omega) (by omega)⟩
  rw [show 1+(j - 1)=j by omega,hj] at c1
  have e1:gv g (itF M W p 1)=gv g q:=by
   show gv g (W (M p))=_
   rw [h.left _ (T.pM.lt p T.lp),T.ep]
  have c2:=T.chain h (a:=j+1) T.lp rfl (N - (j+1)) fun i h1 h2=>⟨nP i (by omega) (by omega),nR i (by omega) (by omega)⟩
  rw [show j+1+(N - (j+1))=N by omega,hN.back] at c2
  have e2:gv g (itF M W p (j+1))=gv g s:=by
   show gv g (W (M (itF M W p j)))=_
   rw [hj,h.left _ (T.pM.lt r T.lr),T.er]
  refine⟨c2.trans e2,c1.trans e1,fun e=>?_⟩
  have S:=h.conn (fun x=>(∃ i,1<=i/\i<=j/\x=itF M W p i)\/∃ i,i<j/\x=M (itF M W p i)) (fun x hx hS=>?_) (fun e' he'=>?_) r p T.lr T.lp (.inl ⟨j,jp,Nat.le_refl _,hj.symm⟩) e
  ·rcases S with ⟨i,h1,h2,h3⟩ | ⟨i,h1,h2⟩
   ·exact nP i (by omega) (by omega) h3.symm
   ·have:=T.parM _ (T.lt T.lp i)
    have:=T.pit T.lp i
    rw [<-h2] at *
    omega
  ·rcases hS with ⟨i,h1,h2,rfl⟩ | ⟨i,h1,rfl⟩
   ·refine .inr ⟨i - 1,by omega,?_⟩
    obtain⟨k,rfl⟩:∃ k,i=k+1:=⟨i - 1,by omega⟩
    show W (W (M (itF M W p k)))=M (itF M W p k)
    exact T.pW.inv _ (T.pM.lt _ (T.lt T.lp k))
   ·exact .inl ⟨i+1,by omega,by omega,rfl⟩
  ·obtain⟨m1,m2,l1,l2,a1,a2,a3,a4,a5,a6,a7,a8⟩:=T.of0 e' he'
   have go:∀ x y,M x=y->x≠q->x≠r->((∃ i,1<=i/\i<=j/\x=itF M W p i)\/∃ i,i<j/\x=M (itF M W p i))->((∃ i,1<=i/\i<=j/\y=itF M W p i)\/∃ i,i<j/\y=M (itF M W p i)):=fun x y hy hq hr hS=>by
    rcases hS with ⟨i,h1,h2,rfl⟩ | ⟨i,h1,rfl⟩
    ·exact .inr ⟨i,by rcases Nat.lt_or_ge i j with z | z;exact z;exact absurd (by rw [show i=j by omega];exact hj) hr,hy.symm⟩
    ·refine .inl ⟨i,Nat.pos_of_ne_zero fun z=>hq (by rw [z];exact T.ep),by omega,?_⟩
     rw [<-hy]
     exact T.pM.inv _ (T.lt T.lp i)
   exact⟨go _ _ m1 a2 a3,go _ _ m2 a6 a7⟩
 ·left
  have hr':∀ i,itF M W p i≠r:=fun i e=>hr ⟨i,e⟩
  have hp':∀ i,itF M W r i≠p:=fun i e=>by
   obtain⟨N',hN'⟩:=per_ex T.pM T.pW T.lr
   have h1:=Trn.mul hN'.back (i+1)
   have h2:i<=(i+1) * N':=Nat.le_trans (Nat.le_succ i) (Nat.le_mul_of_pos_right _ hN'.pos)
   have h3:=it_shift M W r i ((i+1) * N' - i)
   rw [show i+((i+1) * N' - i)=(i+1) * N' by omega,h1,e] at h3
   exact hr' _ h3.symm
  refine⟨T.far h hr',T.swap.far h hp',fun e=>?_⟩
  have S:=h.conn (fun x=>∃ i,x=itF M W p i\/x=M (itF M W p i)) (fun x hx hS=>?_) (fun e' he'=>?_) p r T.lp T.lr ⟨0,.inl rfl⟩ e.symm
  ·obtain⟨i,h1 | h1⟩:=S
   ·exact hr' i h1.symm
   ·have:=T.parM _ (T.lt T.lp i)
    have:=T.pit T.lp i
    have:=T.par
    rw [<-h1] at *
    omega
  ·obtain⟨i,rfl | rfl⟩:=hS
   ·have back:∀ i,∃ k,itF M W p i=itF M W p (k+1):=fun i=>by
     cases i with
     | zero=>exact⟨N - 1,by rw [show N - 1+1=N by omega,hN.back];rfl⟩
     | succ i=>exact⟨i,rfl⟩
    obtain⟨k,hk⟩:=back i
    refine⟨k,.inr ?_⟩
    rw [hk]
    show W (W (M (itF M W p k)))=M (itF M W p k)
    exact T.pW.inv _ (T.pM.lt _ (T.lt T.lp k))
   ·exact⟨i+1,.inl rfl⟩
  ·obtain⟨m1,m2,_⟩:=T.of0 e' he'
   have go:∀ x y,M x=y->(∃ i,x=itF M W p i\/x=M (itF M W p i))->∃ i,y=itF M W p i\/y=M (itF M W p i):=fun x y hy hS=>by
    obtain⟨i,rfl | rfl⟩:=hS
    ·exact⟨i,.inr hy.symm⟩
    ·exact⟨i,.inl (by rw [<-hy];exact T.pM.inv _ (T.lt T.lp i))⟩
   exact⟨go _ _ m1,go _ _ m2⟩
def addE(g:List Int)(a b:Nat):List Int:=relabC g (gv g a) (gv g b)
theorem turn_count{k K K':Nat}(hl:p<g.length/\q<g.length/\r<g.length/\s<g.length)(c:Cts g k)(h:(gv g p=gv g q/\gv g r=gv g s/\gv g p≠gv g r)\/(gv g p=gv g s/\gv g r=gv g q/\gv g p≠gv g r))(c1:Cts (addE (addE g p q) r s) K)(c2:Cts (addE (addE g p s) r q) K'):K'=K+1\/K=K'+1:=by
 obtain⟨lp,lq,lr,ls⟩:=hl
 have both:∀ {a b c' d:Nat},a<g.length->b<g.length->c'<g.length->d<g.length->gv g a=gv g d->gv g c'=gv g b->gv g a≠gv g c'->∀ {J},Cts (addE (addE g a b) c' d) J->J+1=k:=fun {a b c' d} la lb lc ld e1 e2 ne J cj=>by
  have nb:gv g a≠gv g b:=fun e=>ne (e.trans e2.symm)
  obtain⟨h1,h2⟩:=c.add (mem_gv la) (mem_gv lb) nb
  have e3:gv (addE g a b) c'=gv (addE g a b) d:=by
   unfold addE
   rw [gv_relab lc,gv_relab ld,if_pos e2,if_neg (by rw [<-e1];exact nb),e1]
  have e4:addE (addE g a b) c' d=addE g a b:=by
   show relabC (addE g a b) (gv (addE g a b) c') (gv (addE g a b) d)=_
   rw [e3,relabC_same]
  rw [e4] at cj
  have:=cj.uniq h2
  omega
 have none:∀ {a b c' d:Nat},gv g a=gv g b->gv g c'=gv g d->∀ {J},Cts (addE (addE g a b) c' d) J->J=k:=fun {a b c' d} e1 e2 J cj=>by
  have e3:addE g a b=g:=by unfold addE;rw [e1,relabC_same]
  have e4:addE (addE g a b) c' d=g:=by rw [e3];unfold addE;rw [e2,relabC_same]
  rw [e4] at cj
  exact cj.uniq c
 rcases h with ⟨h1,h2,h3⟩ | ⟨h1,h2,h3⟩
 ·have a1:=none h1 h2 c1
  have a2:=both lp ls lr lq h1 h2 h3 c2
  omega
 ·have a1:=both lp lq lr ls h1 h2 h3 c1
  have a2:=none h1 h2 c2
  omega
theorem rounds_turn{M':Nat->Nat}{k:Nat}{rs rs':List (List Nat)}(T:Trn n W M ms0 p q r s)(h:Lab n W ms0 g)(c:Cts g k)(X:Rnds n W M rs)(cov:∀ x,x<n->∃ r∈rs,x∈r)(X':Rnds n W M' rs')(cov':∀ x,x<n->∃ r∈rs',x∈r)
  (h0:∀ e∈ms0,M' e.1=e.2/\M' e.2=e.1) (h1:M' p=s/\M' s=p) (h2:M' r=q/\M' q=r):rs'.length=rs.length+1\/rs.length=rs'.length+1:=by
 have qn:q<n:=by rw [<-T.ep];exact T.pM.lt p T.lp
 have sn:s<n:=by rw [<-T.er];exact T.pM.lt r T.lr
 have all:∀ x,x<n->(∃ e∈ms0,x=e.1\/x=e.2)\/x=p\/x=q\/x=r\/x=s:=fun x hx=>by
  have ev:∀ y,y<n->y % 2=p % 2->(∃ e∈ms0,(y=e.1\/y=e.2)/\(M y=e.1\/M y=e.2))\/y=p\/y=r:=fun y hy py=>by
   by_cases e1:y=p
   ·exact .inr (.inl e1)
   ·by_cases e2:y=r
    ·exact .inr (.inr e2)
    ·rcases T.in0 y hy py e1 e2 with e | e
     ·exact .inl ⟨_,e,.inl rfl,.inr rfl⟩
     ·exact .inl ⟨_,e,.inr rfl,.inl rfl⟩
  by_cases px:x % 2=p % 2
  ·rcases ev x hx px with ⟨e,he,h1,_⟩ | h | h
   ·exact .inl ⟨e,he,h1⟩
   ·exact .inr (.inl h)
   ·exact .inr (.inr (.inr (.inl h)))
  ·have h1:=T.parM x hx
   rcases ev (M x) (T.pM.lt x hx) (by omega) with ⟨e,he,_,h2⟩ | h | h
   ·rw [T.pM.inv x hx] at h2
    exact .inl ⟨e,he,h2⟩
   ·exact .inr (.inr (.inl (by rw [<-T.ep,<-h,T.pM.inv x hx])))
   ·exact .inr (.inr (.inr (.inr (by rw [<-T.er,<-h,T.pM.inv x hx]))))
 have L1:=(h.add T.pW T.lp qn).add T.pW T.lr sn
 have L2:=(h.add T.pW T.lp sn).add T.pW T.lr qn
 have c1:=rounds_cnt X cov L1 (fun e he=>by
  simp only [List.mem_append,List.mem_singleton] at he
  rcases he with (he | he) | he
  ·exact⟨(T.of0 e he).1,(T.of0 e he).2.1⟩
  ·subst he;exact⟨T.ep,by rw [<-T.ep];exact T.pM.inv p T.lp⟩
  ·subst he;exact⟨T.er,by rw [<-T.er];exact T.pM.inv r T.lr⟩) (fun x hx=>by
  rcases all x hx with ⟨e,he,h1⟩ | h | h | h | h
  ·exact⟨e,by simp [he],h1⟩
  ·exact⟨(p,q),by simp,.inl h⟩
  ·exact⟨(p,q),by simp,.inr h⟩
  ·exact⟨(r,s),by simp,.inl h⟩
  ·exact⟨(r,s),by simp,.inr h⟩)
 have c2:=rounds_cnt X' cov' L2 (fun e he=>by
  simp only [List.mem_append,List.mem_singleton] at he
  rcases he with (he | he) | he
  ·exact h0 e he
  ·subst he;exact h1
  ·subst he;exact h2) (fun x hx=>by
  rcases all x hx with ⟨e,he,h1⟩ | h | h | h | h
  ·exact⟨e,by simp [he],h1⟩
  ·exact⟨(p,s),by simp,.inl h⟩
  ·exact⟨(r,q),by simp,.inr h⟩
  ·exact⟨(r,q),by simp,.inl h⟩
  ·exact⟨(p,s),by simp,.inr h⟩)
 refine turn_count (g:=g) ?_ c (T.two h) c1 c2
 rw [h.len]
 exact⟨T.lp,qn,T.lr,sn⟩
end
end Rm
namespace Rm
open PySem L2 PyProof.Rows
theorem Rnds.flip{n:Nat}{L R:Nat->Nat}{rs:List (List Nat)}(X:Rnds n L R rs):Rnds n R L rs:=
 ⟨fun r hr x hx=>let ⟨a,b,c⟩:=X.inn r hr x hx;⟨a,c,b⟩,fun f hf=>X.one f fun x hx=>⟨(hf x hx).2,(hf x hx).1⟩,X.apart,X.ne⟩
section
variable {bs cs:List Bool} {ms:List Nw} {i j:Nat}
theorem trn_fillS(b:Bal bs)(M:Mates bs bs.length ms)(hij:i<j)(hj:j<ms.length):Fill (msZ (trnF ms i j)):=by
 have hl:bs.length=2 * (msZ (trnF ms i j)).length:=by rw [msZ_len,trn_len M hij hj,M.count b]
 refine⟨fun p hp=>?_,?_⟩
 ·obtain⟨q,hq,rfl⟩:=List.mem_map.mp hp
  have:=trn_lt M hij hj q hq
  show (q.1:Int)<(q.2:Int)
  omega
 ·rw [<-hl];exact trn_ends b M hij hj
theorem turn_words{rs rs':List (List Nat)}(bb:Bal bs)(bc:Bal cs)(ec:cs.length=bs.length)(M:Mates bs bs.length ms)(hij:i<j)(hj:j<ms.length)(nc:∀ p∈msZ (trnF ms i j),∀ q∈msZ (trnF ms i j),crossZ p q=false)
  (X:Rnds bs.length (mtF cs) (mtF bs) rs) (cov:∀ x,x<bs.length->∃ r∈rs,x∈r) (X':Rnds bs.length (mtF cs) (mtF (wordB (msZ (trnF ms i j)))) rs') (cov':∀ x,x<bs.length->∃ r∈rs',x∈r):rs'.length=rs.length+1\/rs.length=rs'.length+1:=by
 have F:=trn_fillS bb M hij hj
 have mt':∀ e∈trnF ms i j,Mate (wordB (msZ (trnF ms i j))) e.1 e.2:=fun e he=>by
  have:=F.mate nc (p:=((e.1:Int),(e.2:Int))) (List.mem_map.mpr ⟨e,he,rfl⟩)
  simpa using this
 have hi:i<ms.length:=by omega
 have ma:=M.mate _ (atN_mem hi)
 have mc:=M.mate _ (atN_mem hj)
 have lt12:=atN_lt M hij hj
 have ot:∀ e∈otN ms i j,e∈ms/\e≠atN ms i/\e≠atN ms j:=fun e he=>by
  obtain⟨h1,h2⟩:=List.mem_filter.mp he
  unfold offN at h2
  simp only [Bool.not_eq_true',Bool.or_eq_false_iff,decide_eq_false_iff_not] at h2
  exact⟨h1,h2⟩
 have to:∀ e,e∈ms->e≠atN ms i->e≠atN ms j->e∈otN ms i j:=fun e h1 h2 h3=>List.mem_filter.mpr ⟨h1,by unfold offN;simp [h2,h3]⟩
 have trnO:∀ e∈otN ms i j,e∈trnF ms i j:=fun e he=>List.mem_append_left _ he
 have trnT:∀ e∈turnN (atN ms i) (atN ms j),e∈trnF ms i j:=fun e he=>List.mem_append_right _ he
 generalize eA:atN ms i=A at *
 generalize eC:atN ms j=C at *
 obtain⟨a,b⟩:=A
 obtain⟨c,d⟩:=C
 have ma1:Mate bs a b:=ma.1
 have mc1:Mate bs c d:=mc.1
 have Mab:mtF bs a=b:=mtF_of (.inl ma1)
 have Mba:mtF bs b=a:=mtF_of (.inr ma1)
 have Mcd:mtF bs c=d:=mtF_of (.inl mc1)
 have Mdc:mtF bs d=c:=mtF_of (.inr mc1)
 have pab:=ma1.par
 have pcd:=mc1.par
 have lab:=ma1.lt
 have lcd:=mc1.lt
 have bn:=ma1.ml
 have dn:=mc1.ml
 have ac:a<c:=lt12
 have bd:b≠d:=fun e=>by rw [e,Mdc] at Mba;omega
 have bc':b≠c:=fun e=>by rw [e,Mcd] at Mba;omega
 have of1:∀ e∈otN ms i j,mtF bs e.1=e.2/\mtF bs e.2=e.1/\e.1<bs.length/\e.2<bs.length/\e.1≠a/\e.1≠b/\e.1≠c/\e.1≠d/\e.2≠a/\e.2≠b/\e.2≠c/\e.2≠d:=fun e he=>by
  obtain⟨h1,h2,h3⟩:=ot e he
  have me:=(M.mate e h1).1
  have l:=me.lt
  have ml:=me.ml
  have e1:mtF bs e.1=e.2:=mtF_of (.inl me)
  have e2:mtF bs e.2=e.1:=mtF_of (.inr me)
  refine⟨e1,e2,by omega,ml,fun z=>?_,fun z=>?_,fun z=>?_,fun z=>?_,fun z=>?_,fun z=>?_,fun z=>?_,fun z=>?_⟩
  ·rw [z,Mab] at e1;exact h2 (Prod.ext z e1.symm)
  ·rw [z,Mba] at e1;omega
  ·rw [z,Mcd] at e1;exact h3 (Prod.ext z e1.symm)
  ·rw [z,Mdc] at e1;omega
  ·rw [z,Mab] at e2;omega
  ·rw [z,Mba] at e2;exact h2 (Prod.ext e2.symm z)
  ·rw [z,Mcd] at e2;omega
  ·rw [z,Mdc] at e2;exact h3 (Prod.ext e2.symm z)
 have pW:Prt bs.length (mtF cs):=by rw [<-ec];exact mtF_prt bc
 have parW:∀ x,x<bs.length->(x+mtF cs x) % 2=1:=fun x hx=>mtF_par bc (by omega)
 have h0:∀ e∈otN ms i j,mtF (wordB (msZ (trnF ms i j))) e.1=e.2/\mtF (wordB (msZ (trnF ms i j))) e.2=e.1:=fun e he=>⟨mtF_of (.inl (mt' e (trnO e he))),mtF_of (.inr (mt' e (trnO e he)))⟩
 have inG:∀ x,x<bs.length->x≠a->x≠b->x≠c->x≠d->(x,mtF bs x)∈otN ms i j\/(mtF bs x,x)∈otN ms i j:=fun x hx n1 n2 n3 n4=>by
  rcases mtF_pr bb hx with m | m
  ·obtain⟨y,hy⟩:=M.all x hx m.op
   have:=(M.mate _ hy).1.uniq m
   dsimp only at this
   subst this
   exact .inl (to _ hy (fun z=>n1 (congrArg Prod.fst z)) (fun z=>n3 (congrArg Prod.fst z)))
  ·obtain⟨y,hy⟩:=M.all _ (Nat.lt_trans m.lt m.ml) m.op
   have:=(M.mate _ hy).1.uniq m
   dsimp only at this
   subst this
   exact .inr (to _ hy (fun z=>n2 (congrArg Prod.snd z)) (fun z=>n4 (congrArg Prod.snd z)))
 obtain⟨k0,hk0,ck0⟩:=lab0_cnt bc
 rw [ec] at ck0
 obtain⟨lb,k,ck,_⟩:=closC_cnt pW (Lab.start pW) ck0 (otN ms i j) fun e he=>⟨(of1 e he).2.2.1,(of1 e he).2.2.2.1⟩
 by_cases z:lwN (c,d) (a,b)=true
 ·have t1:(a,c)∈turnN (a,b) (c,d):=by unfold turnN;rw [if_pos z];simp
  have t2:(d,b)∈turnN (a,b) (c,d):=by unfold turnN;rw [if_pos z];simp
  have m1:=mt' _ (trnT _ t1)
  have m2:=mt' _ (trnT _ t2)
  have pac:(a+c) % 2=1:=m1.par
  have T:Trn bs.length (mtF cs) (mtF bs) (otN ms i j) a b d c:=⟨pW,mtF_prt bb,parW,fun x hx=>mtF_par bb hx,by omega,dn,by omega,by omega,Mab,Mdc,fun x hx px n1 n2=>inG x hx n1 (by omega) (by omega) n2,fun e he=>by obtain⟨x1,x2,x3,x4,y1,y2,y3,y4,y5,y6,y7,y8⟩:=of1 e he;exact⟨x1,x2,x3,x4,y1,y2,y4,y3,y5,y6,y8,y7⟩⟩
  exact rounds_turn T lb ck X cov X' cov' h0 ⟨mtF_of (.inl m1),mtF_of (.inr m1)⟩ ⟨mtF_of (.inl m2),mtF_of (.inr m2)⟩
 ·have t1:(a,d)∈turnN (a,b) (c,d):=by unfold turnN;rw [if_neg z];simp
  have t2:(b,c)∈turnN (a,b) (c,d):=by unfold turnN;rw [if_neg z];simp
  have m1:=mt' _ (trnT _ t1)
  have m2:=mt' _ (trnT _ t2)
  have pad:(a+d) % 2=1:=m1.par
  have T:Trn bs.length (mtF cs) (mtF bs) (otN ms i j) a b c d:=⟨pW,mtF_prt bb,parW,fun x hx=>mtF_par bb hx,by omega,by omega,by omega,by omega,Mab,Mcd,fun x hx px n1 n2=>inG x hx n1 (by omega) n2 (by omega),of1⟩
  exact rounds_turn T lb ck X cov X' cov' h0 ⟨mtF_of (.inl m1),mtF_of (.inr m1)⟩ ⟨mtF_of (.inr m2),mtF_of (.inl m2)⟩
end
def RC(bs cs:List Bool)(k:Nat):Prop:=∃ rs,RIn bs.length (mtF bs) (mtF cs) bs.length rs (fun x=>∃ r∈rs,x∈r)/\rs.length=k
theorem trn_length{bs:List Bool}{ms:List Nw}{i j:Nat}(b:Bal bs)(M:Mates bs bs.length ms)(hij:i<j)(hj:j<ms.length):(wordB (msZ (trnF ms i j))).length=bs.length:=by
 rw [wordB_len,msZ_len,trn_len M hij hj,M.count b]
theorem RC.left{bs cs:List Bool}{ms:List Nw}{i j k k':Nat}(T:TwoW bs cs)(M:Mates bs bs.length ms)(hij:i<j)(hj:j<ms.length)(nc:∀ p∈msZ (trnF ms i j),∀ q∈msZ (trnF ms i j),crossZ p q=false)(h:RC bs cs k)(h':RC (wordB (msZ (trnF ms i j))) cs k'):k'=k+1\/k=k'+1:=by
 obtain⟨rs,X,rfl⟩:=h
 obtain⟨rs',X',rfl⟩:=h'
 rw [trn_length T.bal M hij hj] at X'
 exact turn_words T.bal T.balR T.eq M hij hj nc X.rn.flip (fun x hx=>(X.upto x hx)) X'.rn.flip (fun x hx=>(X'.upto x hx))
theorem RC.right{bs cs:List Bool}{ms:List Nw}{i j k k':Nat}(T:TwoW bs cs)(M:Mates cs cs.length ms)(hij:i<j)(hj:j<ms.length)(nc:∀ p∈msZ (trnF ms i j),∀ q∈msZ (trnF ms i j),crossZ p q=false)(h:RC bs cs k)(h':RC bs (wordB (msZ (trnF ms i j))) k'):k'=k+1\/k=k'+1:=by
 obtain⟨rs,X,rfl⟩:=h
 obtain⟨rs',X',rfl⟩:=h'
 rw [<-T.eq] at X X'
 exact turn_words T.balR T.bal T.eq.symm M hij hj nc X.rn (fun x hx=>(X.upto x hx)) X'.rn (fun x hx=>(X'.upto x hx))
theorem RC.pos{bs cs:List Bool}{k:Nat}(h:RC bs cs k)(hb:0<bs.length):1<=k:=by
 obtain⟨rs,X,rfl⟩:=h
 obtain⟨r,hr,_⟩:=X.upto 0 hb
 exact List.length_pos_of_mem hr
theorem trn_bal{bs:List Bool}{ms:List Nw}{i j:Nat}(b:Bal bs)(M:Mates bs bs.length ms)(hij:i<j)(hj:j<ms.length):Bal (wordB (msZ (trnF ms i j))):=(trn_fillS b M hij hj).bal
end Rm
namespace Rm
open PySem L2 PyProof.Rows
def spTurnL:Sp:=fun vs H Q _=>∃ bs ms,∃ i j:Nat,vs=[.str (wd bs),.int i,.int j]/\Bal bs/\bs.length<=40/\Mates bs bs.length ms/\i<j/\j<ms.length/\(∀ H',Same H H'->Q .non H')/\((∀ p∈msZ (trnF ms i j),∀ q∈msZ (trnF ms i j),crossZ p q=false)->∀ H',Same H H'->Q (.str (wd (wordB (msZ (trnF ms i j))))) H')
def spMany:Sp:=fun vs H Q _=>∃ l bs cs,vs=[.ref l]/\H l=some (.lst [.str (wd bs),.str (wd cs)])/\TwoW bs cs/\∀ k H',RC bs cs k->Same H H'->Q (.int (k:Nat)) H'
end Rm
namespace Rm
open PySem L2 PyProof.Rows
def top(i:Nat):Stmt:=PySem.Challenge.pw_ringmaze_k24_whole_one_turn_one_round.main.body.getD i (.Pass ⟨0,0,0,0⟩)
abbrev s_crossing:Stmt:=top 1
theorem sc_crossing:FnScope ["bows","a","b","c","d"] ["bows"] (defScope s_crossing):=⟨rfl,rfl,rfl,by decide +kernel,rfl,by decide +kernel,by decide +kernel⟩
abbrev s_lies_within:Stmt:=top 2
theorem sc_lies_within:FnScope ["inner","outer"] ["inner","outer"] (defScope s_lies_within):=⟨rfl,rfl,rfl,by decide +kernel,rfl,by decide +kernel,by decide +kernel⟩
abbrev s_is_whole:Stmt:=top 9
theorem sc_is_whole:FnScope ["thing"] ["thing"] (defScope s_is_whole):=⟨rfl,rfl,rfl,by decide +kernel,rfl,by decide +kernel,by decide +kernel⟩
abbrev s_is_below:Stmt:=top 10
theorem sc_is_below:FnScope ["thing","bound"] ["thing","bound"] (defScope s_is_below):=⟨rfl,rfl,rfl,by decide +kernel,rfl,by decide +kernel,by decide +kernel⟩
abbrev s_is_word:Stmt:=top 13
theorem sc_is_word:FnScope ["thing","waiting","sign"] ["thing"] (defScope s_is_word):=⟨rfl,rfl,rfl,by decide +kernel,rfl,by decide +kernel,by decide +kernel⟩
abbrev s_pairs:Stmt:=top 14
theorem sc_pairs:FnScope ["word","waiting","bows","end","sign"] ["word"] (defScope s_pairs):=⟨rfl,rfl,rfl,by decide +kernel,rfl,by decide +kernel,by decide +kernel⟩
abbrev s_is_bow:Stmt:=top 15
theorem sc_is_bow:FnScope ["thing"] ["thing"] (defScope s_is_bow):=⟨rfl,rfl,rfl,by decide +kernel,rfl,by decide +kernel,by decide +kernel⟩
abbrev s_fills_a_word:Stmt:=top 16
theorem sc_fills_a_word:FnScope ["thing","ends"] ["thing"] (defScope s_fills_a_word):=⟨rfl,rfl,rfl,by decide +kernel,rfl,by decide +kernel,by decide +kernel⟩
abbrev s_word_of:Stmt:=top 17
theorem sc_word_of:FnScope ["bows","firsts"] ["bows"] (defScope s_word_of):=⟨rfl,rfl,rfl,by decide +kernel,rfl,by decide +kernel,by decide +kernel⟩
abbrev s_turn_of:Stmt:=top 25
theorem sc_turn_of:FnScope ["one","two"] ["one","two"] (defScope s_turn_of):=⟨rfl,rfl,rfl,by decide +kernel,rfl,by decide +kernel,by decide +kernel⟩
abbrev s_turned:Stmt:=top 26
theorem sc_turned:FnScope ["word","i","j","bows","others","told","found"] ["word","i","j"] (defScope s_turned):=⟨rfl,rfl,rfl,by decide +kernel,rfl,by decide +kernel,by decide +kernel⟩
abbrev s_vet_words:Stmt:=top 19
theorem sc_vet_words:FnScope ["left","right"] ["left","right"] (defScope s_vet_words):=⟨rfl,rfl,rfl,by decide +kernel,rfl,by decide +kernel,by decide +kernel⟩
abbrev s_partners:Stmt:=top 20
theorem sc_partners:FnScope ["word","told","a","b"] ["word"] (defScope s_partners):=⟨rfl,rfl,rfl,by decide +kernel,rfl,by decide +kernel,by decide +kernel⟩
abbrev s_round_from:Stmt:=top 21
theorem sc_round_from:FnScope ["end","lefts","rights","told","here","across"] ["end","lefts","rights"] (defScope s_round_from):=⟨rfl,rfl,rfl,by decide +kernel,rfl,by decide +kernel,by decide +kernel⟩
abbrev s_rounds:Stmt:=top 22
theorem sc_rounds:FnScope ["left","right","lefts","rights","told","met","end","ends","one"] ["left","right"] (defScope s_rounds):=⟨rfl,rfl,rfl,by decide +kernel,rfl,by decide +kernel,by decide +kernel⟩
abbrev s_closings:Stmt:=top 23
theorem sc_closings:FnScope ["left","right","lefts","groups","told","a","b","one","two"] ["left","right"] (defScope s_closings):=⟨rfl,rfl,rfl,by decide +kernel,rfl,by decide +kernel,by decide +kernel⟩
abbrev s_cell_at:Stmt:=top 28
theorem sc_cell_at:FnScope ["_law_script","_law_k"] ["_law_script","_law_k"] (defScope s_cell_at):=⟨rfl,rfl,rfl,by decide +kernel,rfl,by decide +kernel,by decide +kernel⟩
abbrev s_digits:Stmt:=top 29
theorem sc_digits:FnScope ["_law_cell","_law_many_here","_law_rest","_law_k","_law_found"] ["_law_cell","_law_many_here"] (defScope s_digits):=⟨rfl,rfl,rfl,by decide +kernel,rfl,by decide +kernel,by decide +kernel⟩
abbrev s_word:Stmt:=top 30
theorem sc_word:FnScope ["_law_cell","_law_ends","_law_digits_here","_law_word_here","_law_deep","_law_k"] ["_law_cell","_law_ends"] (defScope s_word):=⟨rfl,rfl,rfl,by decide +kernel,rfl,by decide +kernel,by decide +kernel⟩
abbrev s_turned_l:Stmt:=top 31
theorem sc_turned_l:FnScope ["_law_word_here","_law_i","_law_j","_law_found"] ["_law_word_here","_law_i","_law_j"] (defScope s_turned_l):=⟨rfl,rfl,rfl,by decide +kernel,rfl,by decide +kernel,by decide +kernel⟩
abbrev s_many:Stmt:=top 32
theorem sc_many:FnScope ["_law_words","_law_many_here"] ["_law_words"] (defScope s_many):=⟨rfl,rfl,rfl,by decide +kernel,rfl,by decide +kernel,by decide +kernel⟩
abbrev s_law:Stmt:=top 33
theorem sc_law:FnScope ["_law_script","_law_ends","_law_words","_law_many_here","_law_cell","_law_j","_law_i","_law_after","_law_more"] ["_law_script"] (defScope s_law):=⟨rfl,rfl,rfl,by decide +kernel,rfl,by decide +kernel,by decide +kernel⟩
abbrev s_ini_Crossed:Stmt:=L2.iniS (top 5)
theorem sc_ini_Crossed:FnScope ["self","bows"] ["self","bows"] (defScope s_ini_Crossed):=⟨rfl,rfl,rfl,by decide +kernel,rfl,by decide +kernel,by decide +kernel⟩
structure Blt (mg:Str->Option Value):Prop where
 len:mg "len"=none
 range:mg "range"=none
 int:mg "int"=none
 list:mg "list"=none
 tuple:mg "tuple"=none
 isinstance:mg "isinstance"=none
 str:mg "str"=none
 bool:mg "bool"=none
 sorted:mg "sorted"=none
 all:mg "all"=none
 enumerate:mg "enumerate"=none
 max:mg "max"=none
 min:mg "min"=none
 ValueError:mg "ValueError"=none
 MOST_SIGNS:∃ t,mg "MOST_SIGNS"=some (.int 40 t)
local macro_rules | `(tactic| walk_at "wp") => `(tactic| (try dsimp (maxSteps := 3000000) only [L2.w_varS, L2.w_c, L2.w_op, L2.w_un, L2.w_aug, L2.w_K, L2.w_test, L2.w_tB, L2.w_and, L2.w_or, L2.w_not, L2.w_andV, L2.w_orV, L2.w_notV, L2.w_if, L2.w_seq, L2.w_next, L2.w_brk, L2.w_cont, L2.w_drop, L2.w_ret, L2.w_retN, L2.w_ifS, L2.w_asg, L2.w_gName, L2.w_set0, L2.w_setS, L2.w_nil, L2.w_cons, L2.w_cb, L2.w_tup, L2.w_lst, L2.w_call, L2.w_bm, L2.w_bm0, L2.w_chain, L2.w_chain3, L2.w_for1, L2.w_for2, L2.w_forL, L2.w_forT, L2.w_gTup, L2.w_forS, L2.w_forE, L2.w_compL, L2.w_compT, L2.w_comp1, L2.w_comp2, L2.w_noif, L2.w_init0, L2.w_initS, L2.w_initN, L2.w_get0, L2.w_getS, L2.w_gSub, L2.w_raise, L2.w_sl, L2.w_part, L2.w_nopart, L2.w_dget, L2.w_dput, L2.w_dnewK, L2.w_din, L2.w_dnotin]); (try simp (maxSteps := 3000000) only [L2.w_var0, L2.w_varS, L2.w_c, L2.w_op, L2.w_un, L2.w_I0, L2.w_I, L2.w_U, L2.w_eqI, L2.w_neI, L2.w_eqS, L2.w_neS, L2.w_eqB, L2.w_neB, L2.w_exB, L2.w_exI, L2.w_exB2, L2.w_addS, L2.w_aug, L2.w_ip, if_true, if_false, Bool.false_eq_true, L2.w_K, L2.w_exR, L2.w_exR2, L2.w_ex1I, L2.w_ex1S, L2.w_ex1R, L2.w_ex2R, L2.w_ex2I, L2.w_int1, L2.w_ixS, L2.w_ixL, L2.w_ixT, L2.w_app, L2.w_pop, L2.w_test, L2.w_tB, L2.w_and, L2.w_or, L2.w_not, L2.w_andV, L2.w_orV, L2.w_notV, L2.w_if, L2.w_seq, L2.w_next, L2.w_brk, L2.w_cont, L2.w_drop, L2.w_ret, L2.w_retN, L2.w_ifS, L2.w_asg, L2.w_gName, L2.w_set0, L2.w_setS, L2.w_nil, L2.w_cons, L2.w_cb, L2.w_tup, L2.w_lst, L2.w_call, L2.w_bm, L2.w_bm0, L2.w_chain, L2.w_chain3, L2.w_for1, L2.w_for2, L2.w_forL, L2.w_forT, L2.w_gTup, L2.w_gNil, L2.w_gCons, List.append_nil, decide_eq_true_eq, Bool.not_eq_true', decide_eq_false_iff_not, L2.w_initB, L2.w_setE, L2.w_fsR, L2.w_raiseV, L2.w_excA, L2.w_forS, L2.w_forE, L2.w_compL, L2.w_compT, L2.w_comp1, L2.w_comp2, L2.w_compH, L2.w_noif, L2.w_exS, L2.w_init0, L2.w_initS, L2.w_initN, L2.w_get0, L2.w_getS, L2.w_gSub, L2.w_raise, L2.w_sl, L2.w_part, L2.w_nopart, L2.w_slS, L2.w_dget, L2.w_dget2, L2.w_dput, L2.w_dnewK, L2.w_din, L2.w_dnotin, L2.w_index, L2.w_compE, L2.w_tryG, L2.w_hNil, L2.w_hCons, L2.w_hAs, L2.w_bExpr, L2.w_bAsg, L2.w_bTup, L2.w_bLst]))
section
variable {P:Program} {w:World} {K:PySem.W.Frag} {mg:Str->Option Value} {base:Heap}
theorem ok_crossing (E:Fn K mg "crossing" s_crossing ["bows"]):Def P w K mg base 1 "crossing" s_crossing ["bows"] spCrossing:=E.mk' fun f fd F=>by
 refine F.okS sc_crossing (fun vs H Q E h=>?_) (fun cdv A outer s H vs Q E hr h=>?_)
 ·obtain⟨l,ps,rfl,_⟩:=h
  rfl
 ·obtain⟨l,ps,rfl,bo,qn,qs⟩:=h
  obtain⟨as,b1,bl,bg⟩:=bo.get
  refine⟨[some (.ref l),none,none,none,none],_,rfl,(L2.QSs.h (qpss_cons (qps_for PassesOwn.never rfl (qpi_list (qpv 0)) (qpg_tup (n:=2) rfl (qpgs_cons (qpg_name (i:=1) sc_crossing.nd rfl (Or.inl rfl)) (qpgs_cons (qpg_name (i:=2) sc_crossing.nd rfl (Or.inl rfl)) qpgs_nil)))
   (qpss_one (qps_for PassesOwn.never rfl (qpi_list (qpv 0)) (qpg_tup (n:=2) rfl (qpgs_cons (qpg_name (i:=3) sc_crossing.nd rfl (Or.inl rfl)) (qpgs_cons (qpg_name (i:=4) sc_crossing.nd rfl (Or.inl rfl)) qpgs_nil)))
    (qpss_one (qps_if (qpt_chain3 op_lt op_lt op_lt (qpv 1) (qpv 3) (qpv 2) (qpv 4))
     (qpss_one (qps_ret (qpe_tup (qpa_Tuple (qpe_tup (qpa_Name (qpv 1) (qpa_Name (qpv 2) qpa_nil))) (qpa_Tuple (qpe_tup (qpa_Name (qpv 3) (qpa_Name (qpv 4) qpa_nil))) qpa_nil)))))
     qpss_nil)))))
   (qpss_one (qps_ret qpe_non)))),?_⟩
  walk_at "wp"
  refine⟨⟨_,SqL.of b1⟩,for_list (xs:=as.map V.ref) (fun i σ H2=>∃ x1 x2 x3 x4:Option V,σ=[some (.ref l),x1,x2,x3,x4]/\H2=H/\∀ p∈ps.take i,∀ q∈ps,crossZ p q=false) ⟨none,none,none,none,rfl,rfl,fun p hp=>by simp at hp⟩ (fun i σ H2 _ ⟨_,_,_,_,_,e,_⟩=>by rw [e];exact SqL.of b1) ?_ ?_⟩
  ·rintro i x σ H2 hx ⟨x1,x2,x3,x4,rfl,rfl,hn⟩
   obtain⟨a,p,rfl,hp,ta⟩:=bg i x hx
   walk_at "wp"
   refine⟨_,SqT.of ta,rfl,?_⟩
   walk_at "wp"
   refine⟨⟨_,SqL.of b1⟩,for_list (xs:=as.map V.ref) (fun j σ H3=>∃ x3 x4:Option V,σ=[some (.ref l),some (.int p.1),some (.int p.2),x3,x4]/\H3=H2/\∀ q∈ps.take j,crossZ p q=false) ⟨x3,x4,rfl,rfl,fun p hp=>by simp at hp⟩ (fun i σ H2 _ ⟨_,_,_,e,_⟩=>by rw [e];exact SqL.of b1) ?_ ?_⟩
   ·rintro j y σ H3 hy ⟨y3,y4,rfl,rfl,hm⟩
    obtain⟨c,q,rfl,hq,tc⟩:=bg j y hy
    walk_at "wp"
    refine⟨_,SqT.of tc,rfl,?_⟩
    walk_at "wp"
    have nx:crossZ p q=false->∃ x3 x4:Option V,[some (V.ref l),some (V.int p.1),some (V.int p.2),some (V.int q.1),some (V.int q.2)]=[some (V.ref l),some (V.int p.1),some (V.int p.2),x3,x4]/\True/\∀ q∈ps.take (j+1),crossZ p q=false:=fun e=>by
     refine⟨_,_,rfl,trivial,fun q' hq'=>?_⟩
     rw [List.take_add_one,hq] at hq'
     rcases List.mem_append.mp hq' with z | z
     ·exact hm q' z
     ·have e':q'=q:=by simpa using z
      rw [e'];exact e
    refine ite2 (fun h1=>ite2 (fun h2=>ite2 (fun h3=>?_) (fun h3=>nx (by simp [crossZ,h3]))) (fun h2=>nx (by simp [crossZ,h2]))) (fun h1=>nx (by simp [crossZ,h1]))
    refine⟨(by show 2<=sizeLine;decide),fun t1 n1=>⟨(by show 2<=sizeLine;decide),fun t2 n2=>⟨(by show 2<=sizeLine;decide),fun t3 n3=>?_⟩⟩⟩
    have s1:Same H3 (upd H3 t1 (.tup [.int p.1,.int p.2])):=(Same.refl _).new n1
    have s2:=s1.new (o:=.tup [.int q.1,.int q.2]) (s1.free n2)
    have s3:=s2.new (o:=.tup [.ref t1,.ref t2]) (s2.free n3)
    have e12:t1≠t2:=fun e=>by subst e;rw [upd_same] at n2;cases n2
    have e23:t2≠t3:=fun e=>by subst e;rw [upd_same] at n3;cases n3
    have e13:t1≠t3:=fun e=>by subst e;rw [upd_ne e12,upd_same] at n3;cases n3
    refine qs p (List.mem_of_getElem? hp) q (List.mem_of_getElem? hq) (by simp [crossZ,h1,h2,h3]) t3 t1 t2 _ (s2.free n3) s3 upd_same ?_ ?_
    ·show upd _ _ _ t1=_
     rw [upd_ne e13,upd_ne e12,upd_same]
    ·show upd _ _ _ t2=_
     rw [upd_ne e23,upd_same]
   ·rintro σ H3 ⟨y3,y4,rfl,rfl,hm⟩
    refine⟨_,_,y3,y4,rfl,rfl,fun p' hp'=>?_⟩
    rw [List.take_add_one,hp] at hp'
    rcases List.mem_append.mp hp' with z | z
    ·exact hn p' z
    ·have e:p'=p:=by simpa using z
     subst e
     intro q hq
     refine hm q ?_
     rw [List.length_map,bl,List.take_length];exact hq
  ·rintro σ H2 ⟨x1,x2,x3,x4,rfl,rfl,hn⟩
   walk_at "wp"
   refine qn fun p hp=>hn p ?_
   rw [List.length_map,bl,List.take_length];exact hp
theorem ok_lies_within (E:Fn K mg "lies_within" s_lies_within ["inner","outer"]):Def P w K mg base 1 "lies_within" s_lies_within ["inner","outer"] spWithin:=E.mk' fun f fd F=>by
 refine F.okS sc_lies_within (fun vs H Q E h=>?_) (fun cdv A outer s H vs Q E hr h=>?_)
 ·obtain⟨a,b,p,q,rfl,_⟩:=h
  rfl
 ·obtain⟨a,b,p,q',rfl,ta,tb,q⟩:=h
  refine⟨[some (.ref a),some (.ref b)],_,rfl,(L2.QSs.h (qpss_one (qps_ret (qpe_and (qpe_cmpR op_lt (qpe_ix ix_tup (qpv 1) qpe_int (fun _ _=>rfl)) (qpe_ix ix_tup (qpv 0) qpe_int (fun _ _=>rfl)) (nomark _)) (qpe_one (qpe_cmpR op_lt (qpe_ix ix_tup (qpv 0) qpe_int (fun _ _=>rfl)) (qpe_ix ix_tup (qpv 1) qpe_int (fun _ _=>rfl)) (nomark _))))))),?_⟩
  walk_at "wp"
  refine⟨_,_,SqT.of tb,rfl,_,_,SqT.of ta,rfl,?_⟩
  walk_at "wp"
  refine ite2 (fun h1=>⟨_,_,SqT.of ta,rfl,_,_,SqT.of tb,rfl,?_⟩) (fun h1=>?_)
  ·walk_at "wp"
   have e:inZ p q'=decide (p.2<q'.2):=by show (decide (q'.1<p.1)&&_)=_;rw [decide_eq_true h1];rfl
   rw [e] at q
   exact q
  ·have e:inZ p q'=false:=by show (decide (q'.1<p.1)&&_)=_;rw [decide_eq_false h1];rfl
   rw [e] at q
   exact q
theorem ok_is_whole (B:Blt mg) (E:Fn K mg "is_whole" s_is_whole ["thing"]):Def P w K mg base 1 "is_whole" s_is_whole ["thing"] (spWhole K):=E.mk' fun f fd F=>by
 refine F.okS sc_is_whole (fun vs H Q E h=>?_) (fun cdv A outer s H vs Q E hr h=>?_)
 ·obtain⟨x,t,b,c,rfl,_⟩:=h
  rfl
 ·obtain⟨x,t,b,c,rfl,ty,e1,e2,q⟩:=h
  refine⟨[some x],_,rfl,(L2.QSs.h (qpss_one (qps_ret (qpe_and (qpe_callB call_isi (by rfl) B.isinstance PyProof.Rows.boot_isinstance (qpa_Name (qpv 0) (qpa_Name (qpe_bltn (v:=.ty "int") (by rfl) B.int PyProof.Rows.boot_int rfl) qpa_nil))) (qpe_one (qpe_not (qpe_callB call_isi (by rfl) B.isinstance PyProof.Rows.boot_isinstance (qpa_Name (qpv 0) (qpa_Name (qpe_bltn (v:=.ty "bool") (by rfl) B.bool PyProof.Rows.boot_bool rfl) qpa_nil))))))))),?_⟩
  walk_at "wp"
  refine⟨_,_,_,b,rfl,ty,e1,?_⟩
  walk_at "wp"
  cases b with
  | false=>exact iteF q
  | true=>exact iteT ⟨_,_,_,c,rfl,ty,e2,_,rfl,q⟩
theorem ok_is_below (E:Fn K mg "is_below" s_is_below ["thing","bound"]) (D_is_whole:Def P w K mg base 1 "is_whole" s_is_whole ["thing"] (spWhole K)):Def P w K mg base 2 "is_below" s_is_below ["thing","bound"] spBelow:=E.mk' fun f fd F=>by
 refine F.okS sc_is_below (fun vs H Q E h=>?_) (fun cdv A outer s H vs Q E hr h=>?_)
 ·obtain⟨v,d,n,rfl,_⟩:=h
  rfl
 ·obtain⟨v,d,n,rfl,hd,q⟩:=h
  refine⟨[some v,some (.int n)],_,rfl,(L2.QSs.h (qpss_one (qps_ret (qpe_and (qpe_callD D_is_whole (hr.mono (by decide)) (by rfl) (qpa_Name (qpv 0) qpa_nil)) (qpe_one (qpe_chain op_le op_lt qpe_int (qpv 0) (qpv 1))))))),?_⟩
  walk_at "wp"
  refine whole_of hd ?_
  unfold belD at q
  walk_at "wp"
  cases hw:wholeD d with
  | false=>
   rw [hw] at q
   exact iteF q
  | true=>
   rw [hw] at q
   have ed:=wholeD_int hw
   generalize intOf d=z at ed q
   subst ed
   cases hd
   refine iteT ?_
   walk_at "wp"
   by_cases h0:0<=z
   ·rw [if_pos h0]
    rw [decide_eq_true h0] at q
    exact q
   ·rw [if_neg h0]
    rw [decide_eq_false h0] at q
    exact q
theorem ok_is_word (B:Blt mg) (E:Fn K mg "is_word" s_is_word ["thing"]):Def P w K mg base 1 "is_word" s_is_word ["thing"] (spIsWord K):=E.mk' fun f fd F=>by
 refine F.okS sc_is_word (fun vs H Q E h=>?_) (fun cdv A outer s H vs Q E hr h=>?_)
 ·obtain⟨x,rfl,_⟩:=h
  rfl
 ·obtain⟨x,rfl,h⟩:=h
  refine⟨[some x,none,none],_,rfl,(L2.QSs.h (qpss_cons (qps_if (QW.pt (qpw_or (qpt_not (qpt_val (qpe_callB call_isi (by rfl) B.isinstance PyProof.Rows.boot_isinstance (qpa_Name (qpv 0) (qpa_Name (qpe_bltn (v:=.ty "str") (by rfl) B.str PyProof.Rows.boot_str rfl) qpa_nil))))) (qpw_or1 (qpt_cmpR op_gt (qpe_callB call_len_str (by rfl) B.len PySem.boot_len (qpa_Name (qpv 0) qpa_nil)) (qpe_globI (by rfl) B.MOST_SIGNS) (nomark _)))))
   (qpss_one (qps_ret qpe_bl))
   qpss_nil)
   (qpss_cons (qps_set (i:=1) sc_is_word.nd rfl (Or.inl rfl) qpe_int)
   (qpss_cons (qps_for PassesOwn.never rfl (qpi_str (qpv 0)) (qpg_name (i:=2) sc_is_word.nd rfl (Or.inl rfl))
   (qpss_cons (qps_if (qpt_cmpR op_eq (qpv 2) qpe_str (nomark _))
    (qpss_one (qps_aug (i:=1) sc_is_word.nd rfl (Or.inl rfl) qpe_int ip_add))
    (qpss_one (qps_if (qpt_cmpR op_eq (qpv 2) qpe_str (nomark _))
     (qpss_one (qps_aug (i:=1) sc_is_word.nd rfl (Or.inl rfl) qpe_int ip_sub))
     (qpss_one (qps_ret qpe_bl)))))
    (qpss_one (qps_if (qpt_cmpR op_lt (qpv 1) qpe_int (nomark _))
    (qpss_one (qps_ret qpe_bl))
    qpss_nil))))
   (qpss_one (qps_ret (qpe_cmpR op_eq (qpv 1) qpe_int (nomark _)))))))),?_⟩
  walk_at "wp"
  rcases h with ⟨z,rfl,ha,hz,q⟩ | ⟨t,ty,e,q⟩
  rotate_left
  ·exact⟨x,"str",t,false,rfl,ty,e,by simpa using q⟩
  refine⟨_,_,_,true,rfl,.str z,rfl,?_⟩
  walk_at "wp"
  refine⟨Nat.le_of_lt (small1000 hz),ite2 (fun h1=>?_) (fun h1=>?_)⟩
  ·have e:isW z=false:=by unfold isW;rw [decide_eq_false (by omega)];rfl
   rw [e] at q
   exact q
  have e40:isW z=scan z.cps.toList 0:=by unfold isW;rw [decide_eq_true (by omega)];rfl
  rw [e40] at q
  refine⟨ha,for_str (x:=z) (fun i σ H2=>∃ (wt:Int) (x2:Option V),σ=[some (.str z),some (.int wt),x2]/\H2=H/\0<=wt/\scan (z.cps.toList.drop i) wt=scan z.cps.toList 0) ⟨0,none,rfl,rfl,by decide,rfl⟩ ?_ ?_⟩
  ·rintro i c σ H2 hc ⟨wt,x2,rfl,rfl,h0,hs⟩
   have hc':z.cps.toList[i]? = some c:=by simpa using hc
   obtain⟨hi,_⟩:=List.getElem?_eq_some_iff.mp hc'
   have hd:z.cps.toList.drop i=c::z.cps.toList.drop (i+1):=by
    rw [List.drop_eq_getElem_cons hi]
    congr 1
   rw [hd] at hs
   walk_at "wp"
   simp only [code_open,code_close]
   refine ite2 (fun h1=>?_) (fun h1=>ite2 (fun h2=>?_) (fun h2=>?_))
   ·rw [scan,if_pos h1] at hs
    exact ite2 (fun h3=>absurd h3 (by omega)) (fun h3=>⟨_,_,rfl,by trivial,by omega,hs⟩)
   ·rw [scan,if_neg h1,if_pos h2] at hs
    refine ite2 (fun h3=>?_) (fun h3=>?_)
    ·rw [if_pos h3] at hs
     rw [<-hs] at q
     exact q
    ·rw [if_neg h3] at hs
     exact⟨_,_,rfl,by trivial,by omega,hs⟩
   ·rw [scan,if_neg h1,if_neg h2] at hs
    rw [<-hs] at q
    exact q
  ·rintro σ H2 ⟨wt,x2,rfl,rfl,h0,hs⟩
   walk_at "wp"
   rw [List.drop_of_length_le (by simp)] at hs
   rw [<-hs] at q
   exact q
theorem ok_pairs {c_NoWord:Addr} (O_NoWord:OwnCls "NoWord" c_NoWord [.type "ValueError",.type "Exception",.type "BaseException",.type "object"] "ValueError.__new__" mg base) (B:Blt mg) (E:Fn K mg "pairs" s_pairs ["word"]) (D_is_word:Def P w K mg base 1 "is_word" s_is_word ["thing"] (spIsWord K)):DefX P w K mg base 2 "pairs" s_pairs ["word"] (spPairsX c_NoWord):=E.mkX fun f fd F=>by
 refine F.okX sc_pairs (fun vs H Q E h=>?_) (fun cdv A outer s H vs Q E hr h=>?_)
 ·obtain⟨x,rfl,_⟩:=h
  rfl
 ·obtain⟨x,rfl,h⟩:=h
  refine⟨[some x,none,none,none,none],_,rfl,(L2.QSs.h (qpss_cons (qps_if (qpt_nox (qpt_not (qpt_val (qpe_callD D_is_word (hr.mono (by decide)) (by rfl) (qpa_Name (qpv 0) qpa_nil)))))
   (qpss_one (qps_raise rais_def O_NoWord PySem.F.excBase_ValueError rfl (by rfl) (qpa_Constant qpe_str qpa_nil)))
   qpss_nil)
   (qpss_cons (qps_nox (qps_set (i:=1) sc_pairs.nd rfl (Or.inl rfl) (qpe_lst qpa_nil)))
   (qpss_cons (qps_nox (qps_set (i:=2) sc_pairs.nd rfl (Or.inl rfl) (qpe_lst qpa_nil)))
   (qpss_cons (qps_nox (qps_for PassesOwn.never rfl (qpi_enum (by rfl) B.enumerate (qpa_Name (qpv 0) qpa_nil)) (qpg_tup (n:=2) rfl (qpgs_cons (qpg_name (i:=3) sc_pairs.nd rfl (Or.inl rfl)) (qpgs_cons (qpg_name (i:=4) sc_pairs.nd rfl (Or.inl rfl)) qpgs_nil)))
   (qpss_one (qps_if (qpt_cmpR op_eq (qpv 4) qpe_str (nomark _))
    (qpss_one (qps_expr (qpe_bm PySem.F.plainAttrs_list PySem.F.slot_list_append PySem.F.type_list_append mt_append (qpv 1) (qpa_Name (qpv 3) qpa_nil))))
    (qpss_one (qps_expr (qpe_bm PySem.F.plainAttrs_list PySem.F.slot_list_append PySem.F.type_list_append mt_append (qpv 2) (qpa_Tuple (qpe_tup (qpa_Call (qpe_bm0 PySem.F.plainAttrs_list PySem.F.slot_list_pop PySem.F.type_list_pop mt_pop (qpv 1)) (qpa_Name (qpv 3) qpa_nil))) qpa_nil))))))))
   (qpss_one (qps_nox (qps_ret (qpe_callB call_sorted_bows (by rfl) B.sorted PyProof.Rows.boot_sorted (qpa_Name (qpv 2) qpa_nil)))))))))),?_⟩
  rcases h with ⟨bs,ms,rfl,bal,hl,M,q⟩ | ⟨d,hd,ht,hw,qx⟩
  rotate_left
  ·walk_at "wp"
   refine isWord_of hd ht ?_
   rw [hw]
   walk_at "wp"
   exact⟨(by show 1<=sizeLine;decide),qx⟩
  walk_at "wp"
  refine⟨_,rfl,.inl ⟨_,rfl,wd_ascii bs,by rw [wd_length];omega,?_⟩⟩
  rw [isW_wd bal hl]
  walk_at "wp"
  refine⟨Nat.zero_le _,fun wl hwl=>⟨Nat.zero_le _,fun bl hbl=>⟨wd_ascii bs,?_⟩⟩⟩
  have s1:Same H (upd H wl (.lst [])):=(Same.refl _).new hwl
  have nbl:H bl=none:=s1.free hbl
  have nwb:wl≠bl:=fun e=>by subst e;rw [upd_same] at hbl;cases hbl
  refine for_enum (x:=wd bs) (fun i σ H2=>∃ (ws:List Nat) (bw:List (Nat×Nat)) (x3 x4:Option V),σ=[some (.str (wd bs)),some (.ref wl),some (.ref bl),x3,x4]/\Same H H2/\H2 wl=some (.lst (natV ws))/\BowsAt H2 bl (msZ bw)/\Stk bs i ws bw)
   ⟨[],[],none,none,rfl,s1.new nbl,by rw [upd_ne nwb,upd_same];rfl,⟨[],upd_same,.nil⟩,Stk.start bs⟩ ?_ ?_
  ·rintro i c σ H2 p hc ⟨ws,bw,x3,x4,rfl,sm,hw,bo,S⟩ np
   obtain⟨b,hb,rfl⟩:=wd_cps hc
   have hi:=(List.getElem?_eq_some_iff.mp hb).1
   have hlen:=S.len
   have nwp:wl≠p:=ne_of_none hw np
   have nHp:H p=none:=sm.free np
   have hw2:∀ o,(upd H2 p o) wl=some (.lst (natV ws)):=fun o=>by rw [upd_ne nwp];exact hw
   have sp:=(Same.refl H2).new (o:=.tup [.int i,.str ⟨#[cpB b]⟩]) np
   have bo2:=bo.same sp
   walk_at "wp"
   refine⟨_,SqT.of upd_same,rfl,?_⟩
   walk_at "wp"
   simp only [sign_open]
   refine ite2 (fun h1=>?_) (fun h1=>?_)
   ·subst h1
    refine⟨w_tyL (hw2 _),_,hw2 _,by rw [natV_len];exact small1000 (by omega),ws++[i],bw,_,_,rfl,(sm.new nHp).new hwl,?_,bows_upd bo2 (hw2 _) nwb.symm,S.opens hb⟩
    rw [upd_same,natV_snoc]
   ·have hbf:b=false:=by cases b;rfl;exact absurd rfl h1
    subst hbf
    obtain⟨ws',k,rfl⟩:=S.has bal hb
    obtain⟨as,b1,b2⟩:=bo2
    have hal:as.length=(msZ bw).length:=Paired.length b2
    rw [msZ,List.length_map] at hal
    have hlen':=S.len
    simp only [List.length_append,List.length_singleton] at hlen'
    refine⟨w_tyL b1,w_tyL (hw2 _),_,.int k,hw2 _,natV_last ws' k,(by show 2<=sizeLine;decide),fun t nt=>?_⟩
    rw [natV_drop] at nt ⊢
    have bo3:=bows_upd (l:=wl) (ys:=natV ws') (show BowsAt _ bl (msZ bw) from ⟨as,b1,b2⟩) (hw2 _) nwb.symm
    obtain⟨as3,c1,c2⟩:=id bo3
    have hal3:as3.length=(msZ bw).length:=Paired.length c2
    rw [msZ,List.length_map] at hal3
    have ntb:bl≠t:=ne_of_none c1 nt
    have ntw:wl≠t:=fun e=>by subst e;rw [upd_same] at nt;cases nt
    have nHt:H t=none:=by
     have z:=((sm.new (o:=.tup [.int i,.str ⟨#[cpB false]⟩]) nHp).new (o:=.lst (natV ws')) hwl).free nt
     exact z
    refine⟨as3.map V.ref,by rw [upd_ne ntb];exact c1,by rw [List.length_map];exact small1000 (by omega),ws',bw++[(k,i)],_,_,rfl,(((sm.new nHp).new hwl).new nHt).new nbl,by rw [upd_ne nwb,upd_ne ntw,upd_same],?_,S.closes hb⟩
    rw [msZ,List.map_append]
    exact bows_snoc c1 c2 nt
  ·rintro σ H2 ⟨ws,bw,x3,x4,rfl,sm,hw,bo,S⟩
   rw [wd_size] at S
   walk_at "wp"
   obtain⟨as,b1,b2⟩:=id bo
   have hlen:=S.len
   have hbm:∀ p∈msZ bw,0<=p.2/\p.2<1000:=fun p hp=>by
    obtain⟨x,hx,rfl⟩:=List.mem_map.mp hp
    have:=(S.mate x hx).2
    exact⟨by simp,by simp only;omega⟩
   refine⟨bl,as,msZ bw,rfl,SqL.of b1,b2,by rw [msZ,List.length_map];omega,hbm,fun l' as' ps' nl' hP' hperm hsort=>?_⟩
   obtain⟨ot,rfl,ho⟩:=msZ_perm hperm
   have e:ot=ms:=S.sorted bal M ho (hsort.of_map _ fun a b z=>by
    unfold leB at z
    simp only at z
    omega)
   subst e
   exact q l' _ (sm.free nl') (sm.new (sm.free nl')) (bows_copy (l:=l') hP' nl')
theorem ok_is_bow (B:Blt mg) (E:Fn K mg "is_bow" s_is_bow ["thing"]) (D_is_whole:Def P w K mg base 1 "is_whole" s_is_whole ["thing"] (spWhole K)):Def P w K mg base 2 "is_bow" s_is_bow ["thing"] spIsBow:=E.mk' fun f fd F=>by
 refine F.okS sc_is_bow (fun vs H Q E h=>?_) (fun cdv A outer s H vs Q E hr h=>?_)
 ·obtain⟨x,d,rfl,_⟩:=h
  rfl
 ·obtain⟨x,d,rfl,hd,q⟩:=h
  refine⟨[some x],_,rfl,(L2.QSs.h (qpss_cons (qps_if (QW.pt (qpw_or (qpt_not (qpt_val (qpe_callB call_isi (by rfl) B.isinstance PyProof.Rows.boot_isinstance (qpa_Name (qpv 0) (qpa_Name (qpe_bltn (v:=.ty "tuple") (by rfl) B.tuple PyProof.Rows.boot_tuple rfl) qpa_nil))))) (qpw_or1 (qpt_cmpR op_ne (qpe_callB call_len_seq (by rfl) B.len PySem.boot_len (qpa_Name (qpv 0) qpa_nil)) qpe_int (nomark _)))))
   (qpss_one (qps_ret qpe_bl))
   qpss_nil)
   (qpss_one (qps_ret (qpe_and (qpe_callD D_is_whole (hr.mono (by decide)) (by rfl) (qpa_Subscript (qpe_ix ix_tup (qpv 0) qpe_int (fun _ _=>rfl)) qpa_nil)) (qpe_and (qpe_callD D_is_whole (hr.mono (by decide)) (by rfl) (qpa_Subscript (qpe_ix ix_tup (qpv 0) qpe_int (fun _ _=>rfl)) qpa_nil)) (qpe_one (qpe_cmpR op_lt (qpe_ix ix_tup (qpv 0) qpe_int (fun _ _=>rfl)) (qpe_ix ix_tup (qpv 0) qpe_int (fun _ _=>rfl)) (nomark _))))))))),?_⟩
  cases hT:isT d with
  | false=>
   walk_at "wp"
   refine isi_tuple hd ?_
   walk_at "wp"
   rw [bow_notT hT] at q
   exact ifY hT q
  | true=>
   obtain⟨a,xs,ds,rfl,rfl,h1,h2⟩:=tup_of hd hT
   walk_at "wp"
   refine isi_tuple hd ?_
   walk_at "wp"
   refine ifN (fun z=>nomatch z) ⟨_,.inr (SqT.of h1),?_⟩
   have hl:=h2.len
   refine ite2 (fun hn=>?_) (fun hn=>?_)
   ·rw [isBowD_len (fun z=>hn (by rw [hl,z];rfl))] at q
    exact q
   ·have hn':xs.length=2:=Int.ofNat.inj (Classical.not_not.mp hn)
    obtain⟨d,e,rfl⟩:=twoL_of (hl.symm.trans hn')
    obtain⟨x,y,rfl,hx,hy⟩:=dat_two h2
    refine⟨_,x,SqT.of h1,rfl,whole_of hx ?_⟩
    walk_at "wp"
    cases ew:wholeD d with
    | false=>
     rw [bow_w1 ew] at q
     exact iteF q
    | true=>
     refine iteT ⟨_,y,SqT.of h1,rfl,whole_of hy ?_⟩
     walk_at "wp"
     cases ev:wholeD e with
     | false=>
      rw [bow_w2 ev] at q
      exact iteF q
     | true=>
      obtain⟨n1,rfl⟩:∃ n,d=.int n:=⟨_,wholeD_int ew⟩
      obtain⟨n2,rfl⟩:∃ n,e=.int n:=⟨_,wholeD_int ev⟩
      cases hx
      cases hy
      refine iteT ⟨_,_,SqT.of h1,rfl,_,_,SqT.of h1,rfl,?_⟩
      walk_at "wp"
      exact q
theorem ok_fills_a_word (B:Blt mg) (E:Fn K mg "fills_a_word" s_fills_a_word ["thing"]) (D_is_bow:Def P w K mg base 2 "is_bow" s_is_bow ["thing"] spIsBow):Def P w K mg base 3 "fills_a_word" s_fills_a_word ["thing"] spFills:=E.mk' fun f fd F=>by
 refine F.okS sc_fills_a_word (fun vs H Q E h=>?_) (fun cdv A outer s H vs Q E hr h=>?_)
 ·obtain⟨x,d,rfl,_⟩:=h
  rfl
 ·obtain⟨x,d,rfl,hd,q⟩:=h
  refine⟨[some x,none],_,rfl,(L2.QSs.h (qpss_cons (qps_if (QW.pt (qpw_or (qpt_not (qpt_val (qpe_callB call_isi (by rfl) B.isinstance PyProof.Rows.boot_isinstance (qpa_Name (qpv 0) (qpa_Name (qpe_bltn (v:=.ty "list") (by rfl) B.list PyProof.Rows.boot_list rfl) qpa_nil))))) (qpw_or1 (qpt_cmpR op_gt (qpe_op op_mul qpe_int (qpe_callB call_len_seq (by rfl) B.len PySem.boot_len (qpa_Name (qpv 0) qpa_nil))) (qpe_globI (by rfl) B.MOST_SIGNS) (nomark _)))))
   (qpss_one (qps_ret qpe_bl))
   qpss_nil)
   (qpss_cons (qps_if (qpt_not (qpt_val (qpe_callB (call_all_bl rfl) (by rfl) B.all PyProof.Rows.boot_all (qpa_ListComp (qpe_comp (own:=["bow"]) (ns:=[]) (caps:=[]) rfl ⟨rfl,by decide +kernel,by decide +kernel,by decide +kernel⟩ .nil (qpi_list (qpv 0)) (fun C s H fp pn=>(qpg_name (i:=0) (show List.Nodup ((["bow"]:List Str)++([]:List Str)) by decide +kernel) rfl (Or.inl rfl))) (fun C s H fp pn=>qpf_nil) (fun C s H fp pn=>(qpe_callD D_is_bow (hr.mono (by decide)) (by rfl) (qpa_Name (qpv 0) qpa_nil)))) qpa_nil))))
   (qpss_one (qps_ret qpe_bl))
   qpss_nil)
   (qpss_cons (qps_set (i:=1) sc_fills_a_word.nd rfl (Or.inl rfl) (qpe_op op_cat (qpe_comp (own:=["bow"]) (ns:=[]) (caps:=[]) rfl ⟨rfl,by decide +kernel,by decide +kernel,by decide +kernel⟩ .nil (qpi_list (qpv 0)) (fun C s H fp pn=>(qpg_name (i:=0) (show List.Nodup ((["bow"]:List Str)++([]:List Str)) by decide +kernel) rfl (Or.inl rfl))) (fun C s H fp pn=>qpf_nil) (fun C s H fp pn=>(qpe_ix (ix_tup' (K:=K) rfl) (qpv 0) qpe_int (fun _ _=>rfl)))) (qpe_comp (own:=["bow"]) (ns:=[]) (caps:=[]) rfl ⟨rfl,by decide +kernel,by decide +kernel,by decide +kernel⟩ .nil (qpi_list (qpv 0)) (fun C s H fp pn=>(qpg_name (i:=0) (show List.Nodup ((["bow"]:List Str)++([]:List Str)) by decide +kernel) rfl (Or.inl rfl))) (fun C s H fp pn=>qpf_nil) (fun C s H fp pn=>(qpe_ix (ix_tup' (K:=K) rfl) (qpv 0) qpe_int (fun _ _=>rfl))))))
   (qpss_one (qps_ret (qpe_cmpR (op_eqD (hu_64 hr)) (qpe_callB call_sorted_ints (by rfl) B.sorted PyProof.Rows.boot_sorted (qpa_Name (qpv 1) qpa_nil)) (qpe_callTy (call_list_rng rfl) (by rfl) B.list PyProof.Rows.boot_list (qpa_cons (qpe_callTy call_rng1 (by rfl) B.range PyProof.Rows.boot_range (qpa_Call (qpe_callB call_len_seq (by rfl) B.len PySem.boot_len (qpa_Name (qpv 1) qpa_nil)) qpa_nil)) qpa_nil)) (nomark _)))))))),?_⟩
  cases hL:isL d with
  | false=>
   walk_at "wp"
   refine isi_list hd ?_
   walk_at "wp"
   rw [fills_notL hL] at q
   exact ifY hL (q H (Same.refl _))
  | true=>
   obtain⟨a,xs,ds,rfl,rfl,h1,h2⟩:=lst_ofD hd hL
   walk_at "wp"
   refine isi_list hd ?_
   walk_at "wp"
   refine ifN (by simp [isL]) ⟨_,.inl (SqL.of h1),.inl ⟨by decide,by decide⟩,?_⟩
   have hl:=h2.len
   refine ite2 (fun hn=>?_) (fun hn=>?_)
   ·have e:fillsD (.list ds)=false:=by
     show (decide (2 * ds.length<=40)&&_)=false
     rw [decide_eq_false (by omega)];rfl
    rw [e] at q
    exact q H (Same.refl _)
   ·have hn':xs.length<=20:=by omega
    have hz:xs.length<=sizeLine:=Nat.le_of_lt (small1000 (by omega))
    have hds:ds.length=xs.length:=hl.symm
    have e0:fillsD (.list ds)=(ds.all isBowD&&fillZ (ds.map bowOf)):=by
     show (decide (2 * ds.length<=40)&&_)=_
     rw [decide_eq_true (by omega)];rfl
    rw [e0] at q
    refine⟨⟨_,SqL.of h1⟩,comp_mapL (SqL.of h1) hz ((ds.map isBowD).map V.bl) (by simp [hds]) (fun i x y Q' hx hy hq=>?_) fun p1 n1=>?_⟩
    ·obtain⟨d,hd1,hd2⟩:=h2.get hx
     walk_at "wp"
     refine⟨x,d,rfl,hd2,?_⟩
     have ey:y=V.bl (isBowD d):=by simp [hd1] at hy;exact hy.symm
     rw [ey] at hq
     exact hq
    ·have s1:Same H (upd H p1 (.lst ((ds.map isBowD).map V.bl))):=(Same.refl _).new n1
     refine⟨p1,_,rfl,SqL.of upd_same,_,rfl,?_⟩
     have ea:(ds.map isBowD).all id=ds.all isBowD:=by rw [List.all_map];rfl
     cases hb:ds.all isBowD with
     | false=>
      rw [hb] at q
      exact ifY (show (ds.map isBowD).all id=false by rw [ea,hb]) (q _ s1)
     | true=>
      rw [hb,Bool.true_and] at q
      rw [List.all_eq_true] at hb
      have hq1:=s1 _ _ h1
      have two:∀ {H':Hp},Same H H'->∀ (i:Nat) x,xs[i]? = some x->∃ t d,x=.ref t/\ds[i]? = some d/\tupAt H' t (bowOf d):=fun {H'} sm i x hx=>by
       obtain⟨d,hd1,hd2⟩:=h2.get hx
       obtain⟨t,rfl,ht⟩:=bow_at hd2 (hb d (List.mem_of_getElem? hd1))
       exact⟨t,d,rfl,hd1,ht.same sm⟩
      refine ifN (show ¬ (ds.map isBowD).all id=false by rw [ea,List.all_eq_true.mpr hb];decide) ⟨⟨_,SqL.of hq1⟩,comp_mapL (SqL.of hq1) hz (((ds.map bowOf).map (·.1)).map V.int) (by simp [hds]) (fun i x y Q' hx hy hq=>?_) fun p2 n2=>?_⟩
      ·obtain⟨t,d,rfl,hd1,ht⟩:=two s1 i x hx
       walk_at "wp"
       refine⟨_,_,SqT.of ht,rfl,?_⟩
       have ey:y=V.int (bowOf d).1:=by simp [hd1] at hy;exact hy.symm
       rw [ey] at hq
       exact hq
      ·have s2:=s1.new (o:=.lst (((ds.map bowOf).map (·.1)).map V.int)) (s1.free n2)
       have hq2:=s2 _ _ h1
       refine⟨⟨_,SqL.of hq2⟩,comp_mapL (SqL.of hq2) hz (((ds.map bowOf).map (·.2)).map V.int) (by simp [hds]) (fun i x y Q' hx hy hq=>?_) fun p3 n3=>?_⟩
       ·obtain⟨t,d,rfl,hd1,ht⟩:=two s2 i x hx
        walk_at "wp"
        refine⟨_,_,SqT.of ht,rfl,?_⟩
        have ey:y=V.int (bowOf d).2:=by simp [hd1] at hy;exact hy.symm
        rw [ey] at hq
        exact hq
       ·have s3:=s2.new (o:=.lst (((ds.map bowOf).map (·.2)).map V.int)) (s2.free n3)
        have n23:p2≠p3:=fun e=>by subst e;rw [upd_same] at n3;cases n3
        refine⟨p2,p3,_,_,rfl,rfl,by rw [upd_ne n23,upd_same],upd_same,by simp only [List.length_map];exact Nat.le_of_lt (small1000 (by omega)),fun p4 n4=>?_⟩
        have ez:((ds.map bowOf).map (·.1)).map V.int++((ds.map bowOf).map (·.2)).map V.int=(endsZ (ds.map bowOf)).map V.int:=by rw [<-List.map_append];rfl
        rw [ez]
        have s4:=s3.new (o:=.lst ((endsZ (ds.map bowOf)).map V.int)) (s3.free n4)
        have el:(endsZ (ds.map bowOf)).length=2 * (ds.map bowOf).length:=endsZ_len _
        have ed:(ds.map bowOf).length=ds.length:=List.length_map ..
        refine⟨p4,_,rfl,SqL.of upd_same,by omega,fun l5 ms n5 hp hs=>?_⟩
        have s5:=s4.new (o:=.lst (ms.map V.int)) (s4.free n5)
        have n45:p4≠l5:=fun e=>by subst e;rw [upd_same] at n5;cases n5
        walk_at "wp"
        refine⟨_,.inl (SqL.of (by rw [upd_ne n45,upd_same])),fun p6 n6=>⟨0,_,upd_same,⟨by decide,by decide,by omega,by rw [List.length_map];omega,by rw [List.length_map];omega⟩,fun l7 n7=>?_⟩⟩
        have s6:=s5.new (o:=.rng 0 (((endsZ (ds.map bowOf)).map V.int).length:Int)) (s5.free n6)
        have n56:l5≠p6:=fun e=>by subst e;rw [upd_same] at n6;cases n6
        have n57:l5≠l7:=fun e=>by subst e;rw [upd_ne n56,upd_same] at n7;cases n7
        have eN:(((endsZ (ds.map bowOf)).map V.int).length - 0:Int).toNat=2 * (ds.map bowOf).length:=by rw [List.length_map];omega
        refine eqL_ints (SqL.of (by rw [upd_ne n57,upd_ne n56,upd_same])) (SqL.of upd_same) ?_
        rw [eN,sorted_fill hp hs]
        exact q _ (s6.new (s6.free n7))
theorem ok_word_of {c_NoWord:Addr} (O_NoWord:OwnCls "NoWord" c_NoWord [.type "ValueError",.type "Exception",.type "BaseException",.type "object"] "ValueError.__new__" mg base) (B:Blt mg) (E:Fn K mg "word_of" s_word_of ["bows"]) (D_fills_a_word:Def P w K mg base 3 "fills_a_word" s_fills_a_word ["thing"] spFills) (D_crossing:Def P w K mg base 1 "crossing" s_crossing ["bows"] spCrossing):DefX P w K mg base 4 "word_of" s_word_of ["bows"] (spWordOfX c_NoWord):=E.mkX fun f fd F=>by
 refine F.okX sc_word_of (fun vs H Q E h=>?_) (fun cdv A outer s H vs Q E hr h=>?_)
 ·obtain⟨x,d,rfl,_⟩:=h
  rfl
 ·obtain⟨x,d,rfl,hd,qw⟩:=h
  refine⟨[some x,none],_,rfl,(L2.QSs.h (qpss_cons (qps_if (qpt_nox (qpt_not (qpt_val (qpe_callD D_fills_a_word (hr.mono (by decide)) (by rfl) (qpa_Name (qpv 0) qpa_nil)))))
   (qpss_one (qps_raise rais_def O_NoWord PySem.F.excBase_ValueError rfl (by rfl) (qpa_Constant qpe_str qpa_nil)))
   qpss_nil)
   (qpss_cons (qps_if (qpt_nox (qpt_cmpR op_notN (qpe_callD D_crossing (hr.mono (by decide)) (by rfl) (qpa_Name (qpv 0) qpa_nil)) qpe_non (nomark _)))
   (qpss_one (qps_raise rais_def O_NoWord PySem.F.excBase_ValueError rfl (by rfl) (qpa_Constant qpe_str qpa_nil)))
   qpss_nil)
   (qpss_cons (qps_nox (qps_set (i:=1) sc_word_of.nd rfl (Or.inr rfl) (qpe_comp (own:=["bow"]) (ns:=[]) (caps:=[]) rfl ⟨rfl,by decide +kernel,by decide +kernel,by decide +kernel⟩ .nil (qpi_list (qpv 0)) (fun C s H fp pn=>(qpg_name (i:=0) (show List.Nodup ((["bow"]:List Str)++([]:List Str)) by decide +kernel) rfl (Or.inl rfl))) (fun C s H fp pn=>qpf_nil) (fun C s H fp pn=>(qpe_ix (ix_tup' (K:=K) rfl) (qpv 0) qpe_int (fun _ _=>rfl))))))
   (qpss_one (qps_nox (qps_ret (qpe_bm PySem.F.plainAttrs_str PySem.F.slot_str_join PySem.F.type_str_join mt_join qpe_str (qpa_ListComp (qpe_comp (own:=["end"]) (ns:=["firsts"]) (caps:=[1]) rfl ⟨rfl,by decide +kernel,by decide +kernel,by decide +kernel⟩ (.cons rfl rfl (.inl rfl) .nil) (qpi_range1 (by rfl) B.range (qpa_BinOp (qpe_op op_mul qpe_int (qpe_callB call_len_seq (by rfl) B.len PySem.boot_len (qpa_Name (qpv 0) qpa_nil))) qpa_nil)) (fun C s H fp pn=>(qpg_name (i:=0) (show List.Nodup ((["end"]:List Str)++(["firsts"]:List Str)) by decide +kernel) rfl (Or.inl rfl))) (fun C s H fp pn=>qpf_nil) (fun C s H fp pn=>(qpe_ifExp (qpt_cmpR (op_inD' (K:=K) rfl (hu_64 hr)) (qpv 0) (qpv 1) (by with_unfolding_all rfl)) qpe_str qpe_str))) qpa_nil))))))))),?_⟩
  walk_at "wp"
  refine⟨x,d,rfl,hd,fun H1 s1=>?_⟩
  cases hf:fillsD d with
  | false=>
   have e:wordsD d=none:=by
    cases d<;>first | rfl | skip
    show (if fillsD _&&_ then _ else none)=none
    rw [hf];rfl
   walk_at "wp"
   have:=qw H1 s1
   rw [e] at this
   exact⟨(by show 1<=sizeLine;decide),this⟩
  | true=>
  obtain⟨ds,rfl⟩:∃ ds,d=.list ds:=by cases d<;>first | exact⟨_,rfl⟩ | exact nomatch hf
  obtain⟨l,xs,rfl,h1,h2⟩:∃ l xs,x=.ref l/\H l=some (.lst xs)/\DatL H xs ds:=by cases hd with | lst h1 h2=>exact⟨_,_,rfl,h1,h2⟩
  have hb:ds.all isBowD=true:=by
   have z:(decide (2 * ds.length<=40)&&(ds.all isBowD&&fillZ (ds.map bowOf)))=true:=hf
   rw [Bool.and_eq_true,Bool.and_eq_true] at z
   exact z.2.1
  have hlen:2 * ds.length<=40:=by
   have z:(decide (2 * ds.length<=40)&&(ds.all isBowD&&fillZ (ds.map bowOf)))=true:=hf
   rw [Bool.and_eq_true] at z
   exact of_decide_eq_true z.1
  have bo:BowsAt H l (ds.map bowOf):=bows_of_dat h1 h2 hb
  generalize hps:ds.map bowOf=ps at *
  have hlen:2 * ps.length<=40:=by rw [<-hps,List.length_map];exact hlen
  have bo1:=bo.same s1
  have ew:wordsD (.list ds)=if (ps.all fun p=>ps.all fun q=>!crossZ p q)=true then some ps else none:=by
   show (if fillsD (.list ds)&&(ds.map bowOf).all (fun p=>(ds.map bowOf).all fun q=>!crossZ p q) then some (ds.map bowOf) else none)=_
   rw [hf,hps];rfl
  walk_at "wp"
  refine⟨l,ps,rfl,bo1,fun hc=>⟨trivial,?_⟩,fun p hp q hq z t a b H2 nt s2 ht ta tb=>⟨trivial,?_⟩⟩
  rotate_left
  ·have:=qw H2 (s1.trans s2)
   rw [ew,if_neg] at this
   ·skip
    exact ifY (fun z=>nomatch z) ⟨(by show 1<=sizeLine;decide),this⟩
   ·intro z2
    have:=List.all_eq_true.mp (List.all_eq_true.mp z2 p hp) q hq
    rw [z] at this;cases this
  have q:∀ H',Same H H'->Q (.str (wd (wordB ps))) H':=fun H' sm=>by
   have:=qw H' sm
   rw [ew,if_pos] at this
   ·exact this
   ·rw [List.all_eq_true]
    intro p hp
    rw [List.all_eq_true]
    intro q hq
    rw [hc p hp q hq];rfl
  walk_at "wp"
  skip
  refine ifN (fun z=>z trivial) ?_
  obtain⟨as,b1,bl,bg⟩:=bo1.get
  have hz:(as.map V.ref).length<=sizeLine:=by rw [List.length_map];exact Nat.le_of_lt (small1000 (by omega))
  refine⟨⟨_,SqL.of b1⟩,comp_mapL (SqL.of b1) hz ((ps.map (·.1)).map V.int) (by simp [bl]) (fun i x y Q' hx hy hq=>?_) fun p2 n2=>?_⟩
  ·obtain⟨t,p,rfl,hp,ht⟩:=bg i x hx
   walk_at "wp"
   refine⟨_,_,SqT.of ht,rfl,?_⟩
   have ey:y=V.int p.1:=by simp [hp] at hy;exact hy.symm
   rw [ey] at hq
   exact hq
  ·have s2:=s1.new (o:=.lst ((ps.map (·.1)).map V.int)) (s1.free n2)
   have n12:l≠p2:=ne_of_none b1 n2
   have hj:JoinOk (Str.ofString "") ((wordB ps).map sgn)=true:=by
    unfold JoinOk
    have e:Builtin.Str.tooLong (((wordB ps).map sgn).toArray.foldl (fun a t=>a+t.length+(Str.ofString "").length) 0)=false:=by
     have h0:∀ (bs:List Bool) (a:Nat),(bs.map sgn).foldl (fun a t=>a+t.length+(Str.ofString "").length) a=a+bs.length:=by
      intro bs
      induction bs with
      | nil=>intro a;rfl
      | cons b bs ih=>
       intro a
       rw [List.map_cons,List.foldl_cons,ih]
       have:(sgn b).length=1:=by show (sgn b).cps.size=1;rw [sgn_cps];rfl
       have h2:(Str.ofString "").length=0:=by rw [str_nil];rfl
       rw [this,h2,List.length_cons];omega
     rw [List.foldl_toArray',h0]
     have:(wordB ps).length<=40:=by simp [wordB];omega
     unfold Builtin.Str.tooLong
     exact decide_eq_false (by have:=small1000 (n:=0+(wordB ps).length) (by omega);omega)
     simp
    rw [e];rfl
   refine⟨rfl,_,.inl (SqL.of (by rw [upd_ne n12];exact b1)),.inl ⟨by decide,by decide⟩,by rw [List.length_map];omega,by rw [List.length_map];omega,?_⟩
   have en:(2 * (as.map V.ref).length:Int).toNat=2 * ps.length:=by rw [List.length_map,bl];omega
   rw [en]
   refine comp_mapR (Nat.le_of_lt (small1000 (by omega))) (((wordB ps).map sgn).map V.str) (by simp [wordB]) (fun i y Q' hi hy hq=>?_) fun p3 n3=>?_
   ·walk_at "wp"
    refine in_ints (ns:=ps.map (·.1)) (.inl (SqL.of upd_same)) ?_
    have ey:y=V.str (sgn (decide (((i:Nat):Int)∈ps.map (·.1)))):=by
     have e2:(((wordB ps).map sgn).map V.str)[i]? = some (V.str (sgn (decide (((i:Nat):Int)∈ps.map (·.1))))):=by simp [wordB,hi]
     rw [e2] at hy
     exact (Option.some.inj hy).symm
    rw [ey] at hq
    walk_at "wp"
    simp only [Int.zero_add] at hq ⊢
    refine ite2 (fun z=>?_) (fun z=>?_)
    ·rw [decide_eq_true (by simpa using z)] at hq
     exact hq
    ·rw [decide_eq_false (by simpa using z)] at hq
     exact hq
   ·refine⟨_,p3,_,rfl,rfl,SqL.of upd_same,hj,?_⟩
    rw [join_sgn]
    exact q _ (s2.new (s2.free n3))
theorem ok_turn_of (E:Fn K mg "turn_of" s_turn_of ["one","two"]) (D_lies_within:Def P w K mg base 1 "lies_within" s_lies_within ["inner","outer"] spWithin):Def P w K mg base 2 "turn_of" s_turn_of ["one","two"] spTurnOf:=E.mk' fun f fd F=>by
 refine F.okS sc_turn_of (fun vs H Q E h=>?_) (fun cdv A outer s H vs Q E hr h=>?_)
 ·obtain⟨a,b,p,q,rfl,_⟩:=h
  rfl
 ·obtain⟨a,b,p,q',rfl,ha,hb,q⟩:=h
  have two:(2:Nat)<=sizeLine:=by decide
  refine⟨[some (.ref a),some (.ref b)],_,rfl,(L2.QSs.h (qpss_cons (qps_if (qpt_val (qpe_callD D_lies_within (hr.mono (by decide)) (by rfl) (qpa_Name (qpv 1) (qpa_Name (qpv 0) qpa_nil))))
   (qpss_one (qps_ret (qpe_lst (qpa_Tuple (qpe_tup (qpa_Subscript (qpe_ix ix_tup (qpv 0) qpe_int (fun _ _=>rfl)) (qpa_Subscript (qpe_ix ix_tup (qpv 1) qpe_int (fun _ _=>rfl)) qpa_nil))) (qpa_Tuple (qpe_tup (qpa_Subscript (qpe_ix ix_tup (qpv 1) qpe_int (fun _ _=>rfl)) (qpa_Subscript (qpe_ix ix_tup (qpv 0) qpe_int (fun _ _=>rfl)) qpa_nil))) qpa_nil)))))
   qpss_nil)
   (qpss_one (qps_ret (qpe_lst (qpa_Tuple (qpe_tup (qpa_Subscript (qpe_ix ix_tup (qpv 0) qpe_int (fun _ _=>rfl)) (qpa_Subscript (qpe_ix ix_tup (qpv 1) qpe_int (fun _ _=>rfl)) qpa_nil))) (qpa_Tuple (qpe_tup (qpa_Subscript (qpe_ix ix_tup (qpv 0) qpe_int (fun _ _=>rfl)) (qpa_Subscript (qpe_ix ix_tup (qpv 1) qpe_int (fun _ _=>rfl)) qpa_nil))) qpa_nil))))))),?_⟩
  walk_at "wp"
  refine⟨b,a,_,_,rfl,hb,ha,_,rfl,?_⟩
  have fin:∀ x y:Nw,turnN p q'=[x,y]->∀ p1,H p1=none->∀ p2,upd H p1 (.tup [.int x.1,.int x.2]) p2=none->∀ p3,upd (upd H p1 (.tup [.int x.1,.int x.2])) p2 (.tup [.int y.1,.int y.2]) p3=none->Q (.ref p3) (upd (upd (upd H p1 (.tup [.int x.1,.int x.2])) p2 (.tup [.int y.1,.int y.2])) p3 (.lst [.ref p1,.ref p2])):=by
   intro x y e p1 n1 p2 n2 p3 n3
   have s1:=(Same.refl H).new (o:=.tup [.int x.1,.int x.2]) n1
   have s2:=(Same.refl _).new (o:=.tup [.int y.1,.int y.2]) n2
   have s3:=(Same.refl _).new (o:=.lst [.ref p1,.ref p2]) n3
   refine q p3 _ ((s1.trans s2).free n3) (s1.trans (s2.trans s3)) ?_
   rw [e]
   exact⟨[p1,p2],upd_same,.cons (s3 _ _ (s2 _ _ upd_same)) (.cons (s3 _ _ upd_same) .nil)⟩
  have e0:inZ ((q'.1:Int),(q'.2:Int)) ((p.1:Int),(p.2:Int))=lwN q' p:=by
   unfold inZ lwN
   congr 1
   ·exact decide_eq_decide.mpr (by simp only;omega)
   ·exact decide_eq_decide.mpr (by simp only;omega)
  rw [e0]
  have sA:∀ {p1:Addr} {o:HO},H p1=none->tupAt (upd H p1 o) a (p.1,p.2)/\tupAt (upd H p1 o) b (q'.1,q'.2):=fun n1=>⟨tupAt.same ((Same.refl H).new n1) ha,tupAt.same ((Same.refl H).new n1) hb⟩
  refine ite2 (fun e=>?_) (fun e=>?_)
  ·refine⟨_,_,SqT.of ha,rfl,_,_,SqT.of hb,rfl,two,fun p1 n1=>?_⟩
   obtain⟨ha1,hb1⟩:=sA (o:=.tup [.int p.1,.int q'.1]) n1
   exact⟨_,_,SqT.of hb1,rfl,_,_,SqT.of ha1,rfl,two,fun p2 n2=>⟨two,fun p3 n3=>fin (p.1,q'.1) (q'.2,p.2) (by unfold turnN;rw [if_pos e]) p1 n1 p2 n2 p3 n3⟩⟩
  ·refine⟨_,_,SqT.of ha,rfl,_,_,SqT.of hb,rfl,two,fun p1 n1=>?_⟩
   obtain⟨ha1,hb1⟩:=sA (o:=.tup [.int p.1,.int q'.2]) n1
   exact⟨_,_,SqT.of ha1,rfl,_,_,SqT.of hb1,rfl,two,fun p2 n2=>⟨two,fun p3 n3=>fin (p.1,q'.2) (p.2,q'.1) (by unfold turnN;rw [if_neg e]) p1 n1 p2 n2 p3 n3⟩⟩
theorem ok_ini_Crossed {R C fi:Addr} {fd:FuncData} {bmB:List Value} {B newId initId:String} (O:IniCls "Crossed" C fi bmB newId mg base) (F0:ExcBaseFacts B newId initId bmB) (u:UpK K R initId) (hR:mg "RingError"=some (.ref R)) (k:IniK K C "bows") (F:Fun K "__init__" "Crossed.__init__" s_ini_Crossed fi fd) :
  FnOk P w K mg base CX0 1 fi fd ["self","bows"] (spIni C "bows" okC):=by
 refine F.okS sc_ini_Crossed (fun vs H Q E h=>?_) (fun cdv A outer s H vs Q E hr h=>?_)
 ·obtain⟨e,v,rfl,_⟩:=h
  rfl
 ·obtain⟨e,v,rfl,ok,he,q⟩:=h
  refine⟨[some (.ref e),some v],_,rfl,(L2.QSs.h (qpss_cons (qps_expr (qpe_initB F0 O hR u (by rfl) (qpa_cons (qpv 0) (qpa_cons (qpe_fsR hr qpe_str (qpv 1)) qpa_nil)))) (qpss_one (qps_setE k (qpv 0) (qpv 1))))),?_⟩
  walk_at "wp"
  exact⟨by decide +kernel,ok,fun z=>⟨e,_,rfl,he,he,fun dx nd ne=>q dx nd ne⟩⟩
theorem ok_turned {c_NoWord c_NoBow c_Crossed:Addr} (O_NoBow:OwnCls "NoBow" c_NoBow [.type "ValueError",.type "Exception",.type "BaseException",.type "object"] "ValueError.__new__" mg base) (O_Crossed:DefI P w K mg base 1 "Crossed" c_Crossed "bows" okC) (B:Blt mg) (E:Fn K mg "turned" s_turned ["word","i","j"]) (D_pairs:DefX P w K mg base 2 "pairs" s_pairs ["word"] (spPairsX c_NoWord)) (D_is_below:Def P w K mg base 2 "is_below" s_is_below ["thing","bound"] spBelow) (D_turn_of:Def P w K mg base 2 "turn_of" s_turn_of ["one","two"] spTurnOf) (D_crossing:Def P w K mg base 1 "crossing" s_crossing ["bows"] spCrossing) (D_word_of:DefX P w K mg base 4 "word_of" s_word_of ["bows"] (spWordOfX c_NoWord)):DefX P w K mg base 5 "turned" s_turned ["word","i","j"] (spTurned c_NoWord c_NoBow c_Crossed):=E.mkX fun f fd F=>by
 refine F.okX sc_turned (fun vs H Q E h=>?_) (fun cdv A outer s H vs Q E hr h=>?_)
 ·obtain⟨x,vi,vj,rfl,_⟩:=h
  rfl
 ·obtain⟨x,vi,vj,rfl,h⟩:=h
  refine⟨[some x,some vi,some vj,none,none,none,none],_,rfl,(L2.QSs.h (qpss_cons (qps_set (i:=3) sc_turned.nd rfl (Or.inr rfl) (qpe_callXP D_pairs (hr.mono (by decide)) (by rfl) (qpa_Name (qpv 0) qpa_nil)))
   (qpss_cons (qps_if (qpt_nox (QW.pt (qpw_or (qpt_not (qpt_val (qpe_callD D_is_below (hr.mono (by decide)) (by rfl) (qpa_Name (qpv 2) (qpa_Call (qpe_callB call_len_seq (by rfl) B.len PySem.boot_len (qpa_Name (qpv 3) qpa_nil)) qpa_nil))))) (qpw_or1 (qpt_not (qpt_val (qpe_callD D_is_below (hr.mono (by decide)) (by rfl) (qpa_Name (qpv 1) (qpa_Name (qpv 2) qpa_nil)))))))))
   (qpss_one (qps_raise rais_def O_NoBow PySem.F.excBase_ValueError rfl (by rfl) (qpa_Constant qpe_str qpa_nil)))
   qpss_nil)
   (qpss_cons (qps_nox (qps_setC (i:=4) sc_turned.nd rfl (Or.inl rfl) (own:=["bow"]) (ns:=["bows","i","j"]) (caps:=[3,1,2]) rfl ⟨rfl,by decide +kernel,by decide +kernel,by decide +kernel⟩ (.cons rfl rfl (.inl rfl) (.cons rfl rfl (.inl rfl) (.cons rfl rfl (.inl rfl) .nil))) (qpi_list (qpv 3)) (fun C s H fp pn=>(qpg_name (i:=0) (show List.Nodup ((["bow"]:List Str)++(["bows","i","j"]:List Str)) by decide +kernel) rfl (Or.inl rfl))) (fun C s H fp pn=>(qpf_one (QW.pt (qpw_and (qpt_cmpR (op_neD' (K:=K) rfl (hu_64 hr)) (qpv 0) (qpe_ix (ix_list' (K:=K) rfl) (qpv 1) (qpv 2) (fun _ _=>rfl)) (nomark _)) (qpw_and1 (qpt_cmpR (op_neD' (K:=K) rfl (hu_64 hr)) (qpv 0) (qpe_ix (ix_list' (K:=K) rfl) (qpv 1) (qpv 3) (fun _ _=>rfl)) (nomark _))))))) (fun C s H fp pn=>(qpv 0))))
   (qpss_cons (qps_nox (qps_set (i:=5) sc_turned.nd rfl (Or.inl rfl) (qpe_op op_cat (qpv 4) (qpe_callD D_turn_of (hr.mono (by decide)) (by rfl) (qpa_Subscript (qpe_ix ix_list (qpv 3) (qpv 1) (fun _ _=>rfl)) (qpa_Subscript (qpe_ix ix_list (qpv 3) (qpv 2) (fun _ _=>rfl)) qpa_nil))))))
   (qpss_cons (qps_nox (qps_set (i:=6) sc_turned.nd rfl (Or.inl rfl) (qpe_callD D_crossing (hr.mono (by decide)) (by rfl) (qpa_Name (qpv 5) qpa_nil))))
   (qpss_cons (qps_if (qpt_nox (qpt_cmpR op_notN (qpv 6) qpe_non (nomark _)))
   (qpss_one (qps_raiseI raisV_def O_Crossed (hr.mono (by omega)) (by rfl) (qpa_Name (qpv 6) qpa_nil)))
   qpss_nil)
   (qpss_one (qps_nox (qps_ret (qpe_callX D_word_of (hr.mono (by decide)) (by rfl) (qpa_Name (qpv 5) qpa_nil)))))))))))),?_⟩
  walk_at "wp"
  refine⟨x,rfl,?_⟩
  rcases h with ⟨d,hd,td,wf,q⟩ | ⟨bs,ms,rfl,b,hl,M,h⟩
  ·exact .inr ⟨d,hd,td,wf,q⟩
  refine .inl ⟨bs,ms,rfl,b,hl,M,fun l H1 nl s1 bl=>?_⟩
  obtain⟨as,h1,pa⟩:=bl
  have al:=Paired.length pa
  rw [msZ_len] at al
  refine⟨l,_,rfl,.inl (SqL.of h1),?_⟩
  rw [List.length_map,al]
  have cnt:=M.count b
  rcases h with ⟨di,dj,hi,hj,bad,q⟩ | ⟨i,j,rfl,rfl,hij,hjn,qn,qc⟩
  ·refine⟨vj,dj,_,rfl,hj.same s1,?_⟩
   by_cases e:belD dj ms.length=true
   case neg=>exact⟨_,rfl,ifY (by simpa using e) ⟨by decide,q _ s1⟩⟩
   have e2:belD di (intOf dj).toNat=false:=bad.resolve_left (by rw [e];decide)
   have e3:wholeD dj=true/\0<=intOf dj:=by
    unfold belD at e
    rw [Bool.and_eq_true,Bool.and_eq_true,decide_eq_true_eq] at e
    exact⟨e.1,e.2.1⟩
   have ed:=wholeD_int e3.1
   obtain⟨z,hz⟩:=Int.eq_ofNat_of_zero_le e3.2
   rw [hz,Int.toNat_natCast] at e2
   rw [hz] at ed
   subst ed
   cases hj
   rw [e]
   exact⟨true,rfl,ifN (by decide) ⟨vi,di,z,rfl,hi.same s1,_,rfl,ifY e2 ⟨by decide,q _ s1⟩⟩⟩
  have bj:belD (.int (j:Nat)) ms.length=true:=by
   show (true&&(decide ((0:Int)<=(j:Nat))&&decide (((j:Nat):Int)<(ms.length:Nat))))=true
   rw [decide_eq_true (by omega),decide_eq_true (by omega)];rfl
  have bi:belD (.int (i:Nat)) j=true:=by
   show (true&&(decide ((0:Int)<=(i:Nat))&&decide (((i:Nat):Int)<(j:Nat))))=true
   rw [decide_eq_true (by omega),decide_eq_true (by omega)];rfl
  refine⟨_,_,_,rfl,.int _,?_⟩
  rw [bj]
  refine⟨true,rfl,ifN (by decide) ⟨_,_,_,rfl,.int _,?_⟩⟩
  rw [bi]
  refine⟨true,rfl,ifN (by decide) ⟨l,rfl,⟨_,SqL.of h1⟩,?_⟩⟩
  have atA:∀ k,k<ms.length->∃ a,as[k]? = some a/\tupAt H1 a ((atN ms k).1,(atN ms k).2):=fun k hk=>by
   have hk':k<as.length:=by omega
   obtain⟨p,hp,ht⟩:=pair_get pa (List.getElem?_eq_getElem hk')
   unfold msZ at hp
   rw [List.getElem?_map,atN_get hk] at hp
   cases hp
   exact⟨_,List.getElem?_eq_getElem hk',ht⟩
  obtain⟨ai,gi,ti⟩:=atA i (by omega)
  obtain⟨aj,gj,tj⟩:=atA j hjn
  have li:atI (as.map V.ref) (i:Nat)=some (.ref ai):=atI_nat (by rw [List.getElem?_map,gi];rfl)
  have lj:atI (as.map V.ref) (j:Nat)=some (.ref aj):=atI_nat (by rw [List.getElem?_map,gj];rfl)
  refine comp_list (xs:=as.map V.ref) (fun k ys σ H'=>H'=H1/\(∃ as',ys=as'.map V.ref/\Paired (tupAt H1) as' (msZ ((ms.take k).filter (offN ms i j))))/\∃ x0,σ=[x0,some (.ref l),some (.int i),some (.int j)]) ⟨rfl,⟨[],rfl,.nil⟩,_,rfl⟩ ?_ (by rw [List.length_map];exact Nat.le_of_lt (small1000 (by omega))) ?_ ?_
  ·rintro k ys σ H' ⟨rfl,⟨as',rfl,pa'⟩,_⟩
   refine⟨SqL.of h1,?_⟩
   have:=Paired.length pa'
   rw [msZ_len] at this
   have:=List.length_filter_le (offN ms i j) (ms.take k)
   rw [List.length_take] at this
   rw [List.length_map]
   omega
  ·rintro k x ys σ H' N hx ⟨rfl,⟨as',rfl,pa'⟩,x0,rfl⟩ hN
   obtain⟨a,ha,rfl⟩:=got_map hx
   have hk:k<ms.length:=by have:=(List.getElem?_eq_some_iff.mp ha).1;omega
   obtain⟨a2,ha2,ta⟩:=atA k hk
   rw [ha] at ha2
   cases ha2
   have etk:ms.take (k+1)=ms.take k++[atN ms k]:=by rw [List.take_add_one,atN_get hk];rfl
   walk_at "wp"
   have cmp:∀ (b:Addr) (n:Nat),n<ms.length->tupAt H' b ((atN ms n).1,(atN ms n).2)->∀ Q':VK,Q' (.bl (!decide (atN ms k=atN ms n))) H'->rEqD K true (.ref a) (.ref b) H' Q':=fun b n hn tb Q' hq=>by
    refine⟨_,_,(tup_bw ta).rep,(tup_bw tb).rep,(bwD_pl _ (k:=0)).lay,(bwD_pl _ (k:=0)).lay,Nat.le_trans (Nat.min_le_left _ _) (Nat.le_trans (bwD_pl _ (k:=0)).deep (by decide)),?_⟩
    rw [bwD_eqv]
    have e:decide (((((atN ms k).1:Nat):Int),(((atN ms k).2:Nat):Int))=((((atN ms n).1:Nat):Int),(((atN ms n).2:Nat):Int)))=decide (atN ms k=atN ms n):=decide_eq_decide.mpr ⟨fun z=>by
     have z1:=congrArg Prod.fst z
     have z2:=congrArg Prod.snd z
     simp only at z1 z2
     exact Prod.ext (by omega) (by omega),fun z=>by rw [z]⟩
    rw [e]
    exact hq
   have keepN:offN ms i j (atN ms k)=false->N (as'.map V.ref) [some (V.ref a),some (V.ref l),some (V.int (i:Nat)),some (V.int (j:Nat))] H':=fun e=>hN _ _ _ ⟨rfl,⟨as',rfl,by rw [etk,List.filter_append];simp [e];exact pa'⟩,_,rfl⟩
   refine⟨_,_,SqL.of h1,li,cmp ai i (by omega) ti _ ?_⟩
   refine⟨_,rfl,ite2 (fun c1=>⟨_,_,SqL.of h1,lj,cmp aj j hjn tj _ ⟨_,rfl,ite2 (fun c2=>?_) (fun c2=>keepN ?_)⟩⟩) (fun c1=>keepN ?_)⟩
   ·have e:offN ms i j (atN ms k)=true:=by
     unfold offN
     rw [Bool.not_eq_true',decide_eq_false_iff_not] at c1 c2
     rw [decide_eq_false c1,decide_eq_false c2];rfl
    refine hN _ _ _ ⟨rfl,⟨as'++[a],by simp,?_⟩,_,rfl⟩
    rw [etk,List.filter_append,msZ_app]
    have e2:List.filter (offN ms i j) [atN ms k]=[atN ms k]:=by simp [e]
    rw [e2]
    exact pair_snoc pa' ta
   ·unfold offN
    rw [Bool.not_eq_true',decide_eq_false_iff_not,Decidable.not_not] at c2
    rw [c2,decide_eq_true rfl,Bool.or_true];rfl
   ·unfold offN
    rw [Bool.not_eq_true',decide_eq_false_iff_not,Decidable.not_not] at c1
    rw [c1,decide_eq_true rfl,Bool.true_or];rfl
  ·rintro ys σ H' p ⟨rfl,⟨as',rfl,pa'⟩,_⟩ np
   rw [List.length_map,al,List.take_length] at pa'
   have s2:=(Same.refl H').new (o:=.lst (as'.map V.ref)) np
   have bo:BowsAt (upd H' p (.lst (as'.map V.ref))) p (msZ (otN ms i j)):=⟨as',upd_same,Paired.mapP pa' fun a q w=>w.same s2⟩
   have g1:=s2 _ _ h1
   generalize upd H' p (.lst (as'.map V.ref))=H2 at s2 bo g1 ⊢
   walk_at "wp"
   refine⟨_,_,SqL.of g1,li,_,_,SqL.of g1,lj,ai,aj,_,_,rfl,ti.same s2,tj.same s2,fun l2 H3 n2 s3 bo2=>?_⟩
   obtain⟨as1,h4,pa4⟩:=bo.same s3
   obtain⟨as2,h5,pa5⟩:=bo2
   have l4:=Paired.length pa4
   have l5:=Paired.length pa5
   rw [msZ_len] at l4 l5
   have tl:=trn_len M hij hjn
   unfold trnF at tl
   rw [List.length_append] at tl
   refine catL_of h4 h5 (by rw [List.length_map,List.length_map];omega) fun p4 H4 n4 s4 h6=>?_
   have bt:BowsAt H4 p4 (msZ (trnF ms i j)):=⟨as1++as2,by rw [List.map_append];exact h6,by unfold trnF;rw [msZ_app];exact pair_app (Paired.mapP pa4 fun a q w=>w.same s4) (Paired.mapP pa5 fun a q w=>w.same s4)⟩
   have s04:=s1.trans (s2.trans (s3.trans s4))
   refine⟨p4,_,rfl,bt,fun nc=>⟨trivial,ifN (fun z=>z rfl) ?_⟩,fun p' hp q' hq z t a c H5 nt s5 ht ta tc=>⟨trivial,ifY (fun z=>nomatch z) ?_⟩⟩
   ·obtain⟨as6,h7,pa6⟩:=bt
    refine⟨_,bowsD (msZ (trnF ms i j)),rfl,.lst h7 (bws_dat pa6),fun H5 s5=>?_⟩
    rw [wordsD_bows (trn_fill b M hl hij hjn) nc]
    exact qn nc _ (s04.trans s5)
   ·have tw:TwoT H5 t p' q':=⟨a,c,ht,ta,tc⟩
    refine⟨_,rfl,tw.ok b hl M hij hjn hp hq,fun dx nd=>?_⟩
    have s6:=(Same.refl H5).new (o:=.xd [("bows",.ref t)]) nd
    exact qc p' hp q' hq z t dx _ ((s04.trans s5).trans s6) (tw.same s6) upd_same
theorem ok_vet_words {c_NoWord:Addr} (O_NoWord:OwnCls "NoWord" c_NoWord [.type "ValueError",.type "Exception",.type "BaseException",.type "object"] "ValueError.__new__" mg base) (B:Blt mg) (E:Fn K mg "vet_words" s_vet_words ["left","right"]) (D_is_word:Def P w K mg base 1 "is_word" s_is_word ["thing"] (spIsWord K)):DefX P w K mg base 2 "vet_words" s_vet_words ["left","right"] (spVetW c_NoWord):=E.mkX fun f fd F=>by
 refine F.okX sc_vet_words (fun vs H Q E h=>?_) (fun cdv A outer s H vs Q E hr h=>?_)
 ·obtain⟨x,y,d,e,rfl,_⟩:=h
  rfl
 ·obtain⟨x,y,d,e,rfl,hd,td,he,te,h⟩:=h
  refine⟨[some x,some y],_,rfl,(L2.QSs.h (qpss_cons (qps_if (qpt_nox (QW.pt (qpw_or (qpt_not (qpt_val (qpe_callD D_is_word (hr.mono (by decide)) (by rfl) (qpa_Name (qpv 0) qpa_nil)))) (qpw_or1 (qpt_not (qpt_val (qpe_callD D_is_word (hr.mono (by decide)) (by rfl) (qpa_Name (qpv 1) qpa_nil))))))))
   (qpss_one (qps_raise rais_def O_NoWord PySem.F.excBase_ValueError rfl (by rfl) (qpa_Constant qpe_str qpa_nil)))
   qpss_nil)
   (qpss_cons (qps_if (qpt_nox (qpt_cmpR op_ne (qpe_callB call_len_str (by rfl) B.len PySem.boot_len (qpa_Name (qpv 0) qpa_nil)) (qpe_callB call_len_str (by rfl) B.len PySem.boot_len (qpa_Name (qpv 1) qpa_nil)) (nomark _)))
   (qpss_one (qps_raise rais_def O_NoWord PySem.F.excBase_ValueError rfl (by rfl) (qpa_Constant qpe_str qpa_nil)))
   qpss_nil)
   (qpss_one (qps_nox (qps_ret qpe_bl)))))),?_⟩
  walk_at "wp"
  refine isWord_of hd td ?_
  walk_at "wp"
  cases h1:isWordD d with
  | false=>
   have e1:twoD d e=false:=by unfold twoD;rw [h1];rfl
   rcases h with ⟨z,_⟩ | ⟨_,q⟩
   ·rw [e1] at z;cases z
   ·exact ifY rfl ⟨(by show 1<=sizeLine;decide),q⟩
  | true=>
  refine ifN (fun z=>nomatch z) (isWord_of he te ?_)
  walk_at "wp"
  cases h2:isWordD e with
  | false=>
   have e1:twoD d e=false:=by unfold twoD;rw [h1,h2];rfl
   rcases h with ⟨z,_⟩ | ⟨_,q⟩
   ·rw [e1] at z;cases z
   ·exact ifY rfl ⟨(by show 1<=sizeLine;decide),q⟩
  | true=>
  refine ifN (fun z=>nomatch z) ?_
  obtain⟨z1,rfl⟩:∃ z,d=.str z:=by cases d<;>first | exact⟨_,rfl⟩ | exact nomatch h1
  obtain⟨z2,rfl⟩:∃ z,e=.str z:=by cases e<;>first | exact⟨_,rfl⟩ | exact nomatch h2
  cases hd
  cases he
  have l1:z1.length<=sizeLine:=Nat.le_of_lt (small1000 td.2)
  have l2:z2.length<=sizeLine:=Nat.le_of_lt (small1000 te.2)
  have et:twoD (.str z1) (.str z2)=decide (z1.length=z2.length):=by unfold twoD;rw [h1,h2];rfl
  rw [et] at h
  walk_at "wp"
  refine⟨l1,l2,ite2 (fun hn=>?_) (fun hn=>?_)⟩
  ·rcases h with ⟨z,_⟩ | ⟨_,q⟩
   ·exact absurd (of_decide_eq_true z) (by omega)
   ·exact⟨(by show 1<=sizeLine;decide),q⟩
  ·rcases h with ⟨_,q⟩ | ⟨z,_⟩
   ·exact q
   ·exact absurd (of_decide_eq_false z) (by omega)
theorem ok_partners {c_NoWord:Addr} (E:Fn K mg "partners" s_partners ["word"]) (D_pairs:DefX P w K mg base 2 "pairs" s_pairs ["word"] (spPairsX c_NoWord)):Def P w K mg base 3 "partners" s_partners ["word"] spPartners:=E.mk' fun f fd F=>by
 refine F.okS sc_partners (fun vs H Q E h=>?_) (fun cdv A outer s H vs Q E hr h=>?_)
 ·obtain⟨bs,rfl,_⟩:=h
  rfl
 ·obtain⟨bs,rfl,bal,hl,q⟩:=h
  refine⟨[some (.str (wd bs)),none,none,none],_,rfl,(L2.QSs.h (qpss_cons (qps_set (i:=1) sc_partners.nd rfl (Or.inl rfl) qpe_dnewK)
   (qpss_cons (qps_for PassesOwn.never rfl (qpi_list (qpe_callX D_pairs (hr.mono (by decide)) (by rfl) (qpa_Name (qpv 0) qpa_nil))) (qpg_tup (n:=2) rfl (qpgs_cons (qpg_name (i:=2) sc_partners.nd rfl (Or.inl rfl)) (qpgs_cons (qpg_name (i:=3) sc_partners.nd rfl (Or.inl rfl)) qpgs_nil)))
   (qpss_cons (qps_dput (hu_1 hr) (qpv 1) (qpv 2) (qpv 3) rfl)
    (qpss_one (qps_dput (hu_1 hr) (qpv 1) (qpv 3) (qpv 2) rfl))))
   (qpss_one (qps_ret (qpv 1)))))),?_⟩
  obtain⟨ms,M⟩:=mates_ex bal bs.length (Nat.le_refl _)
  have hml:=M.count bal
  walk_at "wp"
  intro d nd
  have s0:=(Same.refl H).new (o:=.dK []) nd
  refine⟨_,rfl,.inl ⟨bs,ms,rfl,bal,hl,M,fun l H1 nl s1 bo=>?_⟩⟩
  have ndl:d≠l:=fun e=>by subst e;rw [upd_same] at nl;cases nl
  obtain⟨as,b1,bl,bg⟩:=bo.get
  refine⟨l,rfl,⟨_,SqL.of b1⟩,?_⟩
  refine for_list (xs:=as.map V.ref) (fun i σ H2=>∃ (kvs:KVs) (x2 x3:Option V),σ=[some (.str (wd bs)),some (.ref d),x2,x3]/\Same H H2/\H2 d=some (.dK kvs)/\(∀ b o,H1 b=some o->b≠d->H2 b=some o)/\kvs.length<=2 * i/\∀ p∈ms.take i,valV kvs (.inl (p.1:Int))=some (.int (p.2:Nat))/\valV kvs (.inl (p.2:Int))=some (.int (p.1:Nat)))
   ⟨[],_,_,rfl,s0.trans s1,s1 _ _ upd_same,fun b o h _=>h,Nat.zero_le _,fun p hp=>by simp at hp⟩ (fun i σ H2 _ ⟨_,_,_,_,_,_,kp,_⟩=>SqL.of (kp _ _ b1 ndl.symm)) ?_ ?_
  ·rintro i x σ H2 hx ⟨kvs,x2,x3,rfl,sm,hd,kp,hk,hv⟩
   obtain⟨t,p,rfl,hp,ht⟩:=bg i x hx
   obtain⟨⟨a,b⟩,hm,rfl⟩:∃ q:Nat×Nat,ms[i]? = some q/\p=((q.1:Int),(q.2:Int)):=by
    unfold msZ at hp
    rw [List.getElem?_map] at hp
    cases e:ms[i]? with
    | none=>rw [e] at hp;cases hp
    | some q=>rw [e] at hp;exact⟨q,rfl,(Option.some.inj hp).symm⟩
   have hi:i<ms.length:=(List.getElem?_eq_some_iff.mp hm).1
   have ntd:t≠d:=fun z=>by
    subst z
    have:=s1 _ _ (L2.upd_same (H:=H) (a:=t) (o:=.dK []))
    rw [ht] at this;cases this
   have l1:kvs.length<sizeLine:=small1000 (by omega)
   have hS2:=length_putK kvs (.inl (a:Int):Key) (.int (b:Nat))
   have hS3:=length_putK (putK kvs (.inl (a:Int):Key) (.int (b:Nat))) (.inl (b:Int):Key) (.int (a:Nat))
   have l2:(putK kvs (.inl (a:Int):Key) (.int (b:Nat))).length<sizeLine:=small1000 (by omega)
   have ht2:=kp _ _ ht ntd
   refine⟨t,_,rfl,SqT.of ht2,rfl,?_⟩
   walk_at "wp"
   refine⟨_,DPut.k (k:=.inl (a:Int)) hd l1,_,DPut.k (k:=.inl (b:Int)) upd_same l2,_,_,_,rfl,(sm.new nd).new nd,upd_same,fun c o h hc=>by rw [upd_ne hc,upd_ne hc];exact kp c o h hc,by omega,fun p hp=>?_⟩
   have hab:=(M.mate _ (List.mem_of_getElem? hm)).1
   have val:∀ x y,Pr bs x y->(x=a\/x=b\/valV kvs (.inl (x:Int))=some (.int (y:Nat)))->valV (putK (putK kvs (.inl (a:Int):Key) (.int (b:Nat))) (.inl (b:Int):Key) (.int (a:Nat))) (.inl (x:Int))=some (.int (y:Nat)):=fun x y hxy hx=>by
    rw [valV_put,valV_put]
    by_cases c1:x=b
    ·subst c1
     have e:a=y:=(Pr.symm (.inl hab)).uniq hxy
     rw [if_pos rfl,e]
    ·rw [if_neg (fun z=>c1 (by cases z;rfl))]
     by_cases c2:x=a
     ·subst c2
      have e:b=y:=Pr.uniq (.inl hab) hxy
      rw [if_pos rfl,e]
     ·rw [if_neg (fun z=>c2 (by cases z;rfl))]
      rcases hx with h | h | h
      ·exact absurd h c2
      ·exact absurd h c1
      ·exact h
   rw [List.take_add_one,hm] at hp
   rcases List.mem_append.mp hp with hp | hp
   ·have hmp:=(M.mate _ (List.mem_of_mem_take hp)).1
    exact⟨val _ _ (.inl hmp) (.inr (.inr (hv p hp).1)),val _ _ (.inr hmp) (.inr (.inr (hv p hp).2))⟩
   ·have e:p=(a,b):=by simpa using hp
    subst e
    exact⟨val _ _ (.inl hab) (.inl rfl),val _ _ (.inr hab) (.inr (.inl rfl))⟩
  ·rintro σ H2 ⟨kvs,x2,x3,rfl,sm,hd,kp,hk,hv⟩
   rw [List.length_map,bl,msZ,List.length_map,List.take_length] at hv
   walk_at "wp"
   refine q d kvs H2 nd sm hd fun x hx=>?_
   rcases mtF_pr bal hx with hm | hm
   ·obtain⟨m,hmm⟩:=M.all x hx hm.op
    have e:=(M.mate _ hmm).1.uniq hm
    have:=(hv _ hmm).1
    rw [e] at this;exact this
   ·have h1:=Nat.lt_trans hm.lt hm.ml
    obtain⟨m,hmm⟩:=M.all _ h1 hm.op
    have e:m=x:=(M.mate _ hmm).1.uniq hm
    have:=(hv _ hmm).2
    rw [e] at this;exact this
theorem ok_round_from (E:Fn K mg "round_from" s_round_from ["end","lefts","rights"]):Def P w K mg base 1 "round_from" s_round_from ["end","lefts","rights"] spRound:=E.mk' fun f fd F=>by
 refine F.okS sc_round_from (fun vs H Q E h=>?_) (fun cdv A outer s H vs Q E hr h=>?_)
 ·obtain⟨e,d1,d2,k1,k2,n,L,R,rfl,_⟩:=h
  rfl
 ·obtain⟨e,d1,d2,k1,k2,n,L,R,rfl,hd1,hd2,hL,hR,PL,PR,n40,he,q⟩:=h
  refine⟨[some (.int e),some (.ref d1),some (.ref d2),none,none,none],_,rfl,(L2.QSs.h (qpss_cons (qps_set (i:=3) sc_round_from.nd rfl (Or.inl rfl) (qpe_lst qpa_nil))
   (qpss_cons (qps_set (i:=4) sc_round_from.nd rfl (Or.inl rfl) (qpv 0))
   (qpss_cons (qps_while PassesOwn.never (QW.pt (qpw_or (qpt_not (qpt_truth (qpv 3) (fun _=>rfl))) (qpw_or1 (qpt_cmpR op_ne (qpv 4) (qpv 0) (nomark _)))))
   (qpss_cons (qps_set (i:=5) sc_round_from.nd rfl (Or.inl rfl) (qpe_dget (hu_1 hr) (qpv 1) (qpv 4) (fun _ _=>rfl)))
    (qpss_cons (qps_expr (qpe_bm PySem.F.plainAttrs_list PySem.F.slot_list_append PySem.F.type_list_append mt_append (qpv 3) (qpa_Name (qpv 4) qpa_nil)))
    (qpss_cons (qps_expr (qpe_bm PySem.F.plainAttrs_list PySem.F.slot_list_append PySem.F.type_list_append mt_append (qpv 3) (qpa_Name (qpv 5) qpa_nil)))
    (qpss_one (qps_set (i:=4) sc_round_from.nd rfl (Or.inl rfl) (qpe_dget (hu_1 hr) (qpv 2) (qpv 5) (fun _ _=>rfl))))))))
   (qpss_one (qps_ret (qpv 3))))))),?_⟩
  walk_at "wp"
  refine⟨Nat.zero_le _,fun l nl=>?_⟩
  have nl1:l≠d1:=(ne_of_none hd1 nl).symm
  have nl2:l≠d2:=(ne_of_none hd2 nl).symm
  refine⟨fun m σ H2=>∃ (i:Nat) (x5:Option V),σ=[some (.int e),some (.ref d1),some (.ref d2),some (.ref l),some (.int (itF L R e i:Nat)),x5]/\Same H H2/\H2 l=some (.lst (natI (rdL L R e i)))/\Inj L R e i/\m=n - i,⟨_,0,_,rfl,(Same.refl H).new nl,upd_same,fun j k hj=>by omega,rfl⟩,?_⟩
  rintro m σ H2 ⟨i,x5,rfl,sm,hl,J,rfl⟩
  walk_at "wp"
  have hle:=J.le PL PR he
  have lt:=it_lt (R:=R) PL PR he i
  have hrl:(rdL L R e i).length=2 * i:=rd_len i
  refine⟨!(natI (rdL L R e i)).isEmpty,.inl ⟨_,SqL.of hl,rfl⟩,ite2 (fun h0=>?_) (fun h0=>ite2 (fun hne=>?_) (fun hne=>?_))⟩
  rotate_left 2
  ·have hi:0<i:=by
    cases i with
    | zero=>exact absurd rfl h0
    | succ i=>omega
   have hc:itF L R e i=e:=by omega
   exact q l _ H2 nl sm hl (rnd_of PL PR he J n40 hi hc)
  case' refine_1=>have hc:i=0\/itF L R e i≠e:=.inl (by
   cases i with
   | zero=>rfl
   | succ i=>rw [rdL] at h0;simp [natI] at h0)
  case' refine_2=>have hc:i=0\/itF L R e i≠e:=.inr (by omega)
  all_goals
   have J2:=J.next PL PR he hc
   have hle2:=J2.le PL PR he
   have g1:=DGet.k (k:=.inl ((itF L R e i:Nat):Int)) (sm _ _ hd1)
   rw [hL _ lt] at g1
   have g2:∀ o,DGet (upd (upd H2 l (.lst (natI (rdL L R e i)++[V.int (itF L R e i:Nat)]))) l o) d2 (.int (L (itF L R e i):Nat)) (some (.int (R (L (itF L R e i)):Nat))):=fun o=>by
    have:=DGet.k (k:=.inl ((L (itF L R e i):Nat):Int)) (show (upd (upd H2 l (.lst (natI (rdL L R e i)++[V.int (itF L R e i:Nat)]))) l o) d2=some (.dK k2) by rw [upd_ne nl2.symm,upd_ne nl2.symm];exact sm _ _ hd2)
    rw [hR _ (PL.lt _ lt)] at this
    exact this
   refine⟨_,fun _ _ z=>z,_,g1,w_tyL hl,_,hl,small1000 (by simp [natI];omega),w_tyL upd_same,_,upd_same,small1000 (by simp [natI];omega),_,g2 _,n - (i+1),by omega,i+1,_,rfl,(sm.new nl).new nl,?_,J2,rfl⟩
   rw [upd_same,rdL]
   simp [natI]
theorem ok_rounds {c_NoWord:Addr} (B:Blt mg) (E:Fn K mg "rounds" s_rounds ["left","right"]) (D_vet_words:DefX P w K mg base 2 "vet_words" s_vet_words ["left","right"] (spVetW c_NoWord)) (D_partners:Def P w K mg base 3 "partners" s_partners ["word"] spPartners) (D_round_from:Def P w K mg base 1 "round_from" s_round_from ["end","lefts","rights"] spRound):DefX P w K mg base 4 "rounds" s_rounds ["left","right"] (spRoundsX c_NoWord):=E.mkX fun f fd F=>by
 refine F.okX sc_rounds (fun vs H Q E h=>?_) (fun cdv A outer s H vs Q E hr h=>?_)
 ·obtain⟨x,y,d,e,rfl,_⟩:=h
  rfl
 ·obtain⟨x,y,d,e,rfl,hd,td,he,te,h⟩:=h
  refine⟨[some x,some y,none,none,none,none,none,none,none],_,rfl,(L2.QSs.h (qpss_cons (qps_expr (qpe_callXP D_vet_words (hr.mono (by decide)) (by rfl) (qpa_Name (qpv 0) (qpa_Name (qpv 1) qpa_nil))))
   (qpss_cons (qps_nox (qps_set (i:=2) sc_rounds.nd rfl (Or.inl rfl) (qpe_callD D_partners (hr.mono (by decide)) (by rfl) (qpa_Name (qpv 0) qpa_nil))))
   (qpss_cons (qps_nox (qps_set (i:=3) sc_rounds.nd rfl (Or.inl rfl) (qpe_callD D_partners (hr.mono (by decide)) (by rfl) (qpa_Name (qpv 1) qpa_nil))))
   (qpss_cons (qps_nox (qps_set (i:=4) sc_rounds.nd rfl (Or.inl rfl) (qpe_lst qpa_nil)))
   (qpss_cons (qps_nox (qps_set (i:=5) sc_rounds.nd rfl (Or.inl rfl) qpe_dnewK))
   (qpss_cons (qps_nox (qps_for PassesOwn.never rfl (qpi_range1 (by rfl) B.range (qpa_Call (qpe_callB call_len_str (by rfl) B.len PySem.boot_len (qpa_Name (qpv 0) qpa_nil)) qpa_nil)) (qpg_name (i:=6) sc_rounds.nd rfl (Or.inl rfl))
   (qpss_one (qps_if (qpt_dnotin (hu_1 hr) (qpv 6) (qpv 5))
    (qpss_cons (qps_set (i:=7) sc_rounds.nd rfl (Or.inl rfl) (qpe_callD D_round_from (hr.mono (by decide)) (by rfl) (qpa_Name (qpv 6) (qpa_Name (qpv 2) (qpa_Name (qpv 3) qpa_nil)))))
     (qpss_cons (qps_expr (qpe_bm PySem.F.plainAttrs_list PySem.F.slot_list_append PySem.F.type_list_append mt_append (qpv 4) (qpa_Name (qpv 7) qpa_nil)))
     (qpss_one (qps_for PassesOwn.never rfl (qpi_list (qpv 7)) (qpg_name (i:=8) sc_rounds.nd rfl (Or.inl rfl))
     (qpss_one (qps_dput (hu_1 hr) (qpv 5) (qpv 8) qpe_bl rfl))))))
    qpss_nil))))
   (qpss_one (qps_nox (qps_ret (qpv 4))))))))))),?_⟩
  walk_at "wp"
  refine⟨x,y,d,e,rfl,hd,td,he,te,?_⟩
  rcases h with ⟨bs,cs,rfl,rfl,T,q⟩ | h
  rotate_left
  ·exact .inr h
  refine .inl ⟨two_wd T.bal T.balR T.len T.eq,?_⟩
  cases hd
  cases he
  have hz:(wd bs).length<=sizeLine:=by rw [wd_length];exact Nat.le_of_lt (small1000 (by have:=T.len;omega))
  have hlen:=T.len
  walk_at "wp"
  refine⟨bs,rfl,T.bal,T.len,fun d1 k1 H1 n1 s1 h1 dc1=>?_⟩
  refine⟨cs,rfl,T.balR,by rw [T.eq];exact T.len,fun d2 k2 H2 n2 s2 h2 dc2=>?_⟩
  walk_at "wp"
  refine⟨Nat.zero_le _,fun l nl m nm=>?_⟩
  have nlm:l≠m:=fun z=>by subst z;rw [upd_same] at nm;cases nm
  have PL:=mtF_prt T.bal
  have PR:=mtF_prt T.balR
  rw [T.eq] at dc2 PR
  have sHb:Same H H2:=s1.trans s2
  have nlb:H2 l=none:=nl
  have nmb:H2 m=none:=by rw [upd_ne nlm.symm] at nm;exact nm
  have sz:∀ k:Nat,k<=4000->k<sizeLine:=fun k hk=>Nat.lt_of_le_of_lt hk (by decide)
  have en:((wd bs).length:Int).toNat=bs.length:=by rw [wd_length];omega
  have hd1:=s2 _ _ h1
  refine⟨hz,by omega,by rw [wd_length];omega,?_⟩
  rw [en]
  refine for_range (n:=bs.length) (fun i σ H'=>∃ (rs:List (List Nat)) (ws:List V) (kvs:KVs) (x6 x7 x8:Option V),σ=[some (.str (wd bs)),some (.str (wd cs)),some (.ref d1),some (.ref d2),some (.ref l),some (.ref m),x6,x7,x8]/\Same H2 H'/\H' l=some (.lst ws)/\H' m=some (.dK kvs)/\ws.length=rs.length/\kvs.length<=80 * i/\RIn bs.length (mtF bs) (mtF cs) i rs (fun x=>(valV kvs (.inl (x:Int))).isSome=true))
   ⟨[],[],[],_,_,_,rfl,((Same.refl H2).new nlb).new nmb,by rw [upd_ne nlm,upd_same],upd_same,rfl,Nat.zero_le _,?_⟩ ?_ ?_
  ·have:=RIn.start (n:=bs.length) (L:=mtF bs) (R:=mtF cs)
   refine⟨this.rn,fun x=>Iff.intro (fun h=>nomatch h) (fun h=>?_),fun x h=>by omega,this.len⟩
   obtain⟨r,hr,_⟩:=h
   cases hr
  ·rintro i σ H' hi ⟨rs,ws,kvs,x6,x7,x8,rfl,sm,hl,hm,hwl,hk,RI⟩
   have hrl:=RI.len
   walk_at "wp"
   rw [Int.zero_add]
   refine⟨_,DGet.k (k:=.inl (i:Int)) hm,?_⟩
   walk_at "wp"
   by_cases hmi:(valV kvs (.inl (i:Int))).isSome=true
   ·rw [hmi]
    exact ifN (fun z=>nomatch z) ⟨rs,ws,kvs,_,_,_,rfl,sm,hl,hm,hwl,by omega,RI.skip hmi⟩
   ·have hmf:(valV kvs (.inl (i:Int))).isSome=false:=by cases e:(valV kvs (.inl (i:Int))).isSome<;>first | rfl | exact absurd e hmi
    rw [hmf]
    refine ifY rfl ⟨i,d1,d2,k1,k2,bs.length,mtF bs,mtF cs,rfl,sm _ _ hd1,sm _ _ h2,dc1,dc2,PL,PR,hlen,hi,fun r rl H3 nr s3 hr3 X=>?_⟩
    walk_at "wp"
    have nrl:r≠l:=ne_of_none hl nr |>.symm
    have nrm:r≠m:=ne_of_none hm nr |>.symm
    have RI2:=RI.add PL PR hmi X
    refine⟨w_tyL (s3 _ _ hl),_,s3 _ _ hl,sz _ (by omega),⟨_,SqL.of (show upd H3 l (.lst (ws++[.ref r])) r=some (.lst (natI rl)) by rw [upd_ne nrl];exact hr3)⟩,?_⟩
    have hXl:=X.len
    refine for_list (xs:=natI rl) (fun j σ H4=>∃ (kv4:KVs) (x8:Option V),σ=[some (.str (wd bs)),some (.str (wd cs)),some (.ref d1),some (.ref d2),some (.ref l),some (.ref m),some (.int i),some (.ref r),x8]/\Same H2 H4/\H4 l=some (.lst (ws++[.ref r]))/\H4 r=some (.lst (natI rl))/\H4 m=some (.dK kv4)/\kv4.length<=kvs.length+j/\∀ x:Nat,((valV kv4 (.inl (x:Int))).isSome=true<->((valV kvs (.inl (x:Int))).isSome=true\/x∈rl.take j)))
     ⟨kvs,_,rfl,(sm.trans s3).new nlb,upd_same,by rw [upd_ne nrl];exact hr3,by rw [upd_ne nlm.symm];exact s3 _ _ hm,by omega,fun x=>by simp⟩ (fun j σ H4 _ ⟨_,_,_,_,_,h,_⟩=>SqL.of h) ?_ ?_
    ·rintro j x σ H4 hx ⟨kv4,x8,rfl,s4,hl4,hr4,hm4,hk4,hv4⟩
     unfold natI at hx
     obtain⟨y,hy,rfl⟩:=got_map hx
     have hj:j<rl.length:=(List.getElem?_eq_some_iff.mp hy).1
     have hS:=length_putK kv4 (.inl (y:Int):Key) (.bl true)
     walk_at "wp"
     refine⟨_,DPut.k (k:=.inl (y:Int)) hm4 (sz _ (by omega)),_,_,rfl,s4.new nmb,by rw [upd_ne nlm];exact hl4,by rw [upd_ne nrm];exact hr4,upd_same,by omega,fun x=>?_⟩
     rw [valV_put,List.take_add_one,hy,List.mem_append]
     by_cases c:x=y
     ·subst c
      rw [if_pos rfl]
      simp
     ·rw [if_neg (fun z=>c (by cases z;rfl)),hv4 x]
      simp [c]
    ·rintro σ H4 ⟨kv4,x8,rfl,s4,hl4,hr4,hm4,hk4,hv4⟩
     have enl:(natI rl).length=rl.length:=by simp [natI]
     rw [enl] at hk4 hv4
     rw [List.take_length] at hv4
     refine⟨rs++[rl],_,kv4,_,_,_,rfl,s4,hl4,hm4,by simp [hwl],by omega,⟨RI2.rn,fun x=>?_,fun x hx=>?_,RI2.len⟩⟩
     ·rw [hv4 x];exact RI2.mt x
     ·rw [hv4 x];exact RI2.upto x hx
  ·rintro σ H' ⟨rs,ws,kvs,x6,x7,x8,rfl,sm,hl,hm,hwl,hk,RI⟩
   walk_at "wp"
   exact q l ws rs H' (sHb.free nlb) (sHb.trans sm) hl hwl ⟨RI.rn,fun x=>Iff.rfl,fun x hx=>(RI.mt x).mp (RI.upto x hx),RI.len⟩
theorem ok_closings {c_NoWord:Addr} (B:Blt mg) (E:Fn K mg "closings" s_closings ["left","right"]) (D_vet_words:DefX P w K mg base 2 "vet_words" s_vet_words ["left","right"] (spVetW c_NoWord)) (D_partners:Def P w K mg base 3 "partners" s_partners ["word"] spPartners) (D_pairs:DefX P w K mg base 2 "pairs" s_pairs ["word"] (spPairsX c_NoWord)):DefX P w K mg base 4 "closings" s_closings ["left","right"] (spClosX c_NoWord):=E.mkX fun f fd F=>by
 refine F.okX sc_closings (fun vs H Q E h=>?_) (fun cdv A outer s H vs Q E hr h=>?_)
 ·obtain⟨x,y,d,e,rfl,_⟩:=h
  rfl
 ·obtain⟨x,y,d,e,rfl,hd,td,he,te,h⟩:=h
  refine⟨[some x,some y,none,none,none,none,none,none,none],_,rfl,(L2.QSs.h (qpss_cons (qps_expr (qpe_callXP D_vet_words (hr.mono (by decide)) (by rfl) (qpa_Name (qpv 0) (qpa_Name (qpv 1) qpa_nil))))
   (qpss_cons (qps_nox (qps_set (i:=2) sc_closings.nd rfl (Or.inr rfl) (qpe_callD D_partners (hr.mono (by decide)) (by rfl) (qpa_Name (qpv 0) qpa_nil))))
   (qpss_cons (qps_nox (qps_setC (i:=3) sc_closings.nd rfl (Or.inl rfl) (own:=["end"]) (ns:=["lefts"]) (caps:=[2]) rfl ⟨rfl,by decide +kernel,by decide +kernel,by decide +kernel⟩ (.cons rfl rfl (.inl rfl) .nil) (qpi_range1 (by rfl) B.range (qpa_Call (qpe_callB call_len_str (by rfl) B.len PySem.boot_len (qpa_Name (qpv 0) qpa_nil)) qpa_nil)) (fun C s H fp pn=>(qpg_name (i:=0) (show List.Nodup ((["end"]:List Str)++(["lefts"]:List Str)) by decide +kernel) rfl (Or.inl rfl))) (fun C s H fp pn=>qpf_nil) (fun C s H fp pn=>(qpe_callB (call_min2 rfl) (by rfl) B.min PyProof.Rows.boot_min (qpa_Name (qpv 0) (qpa_Subscript (qpe_dget (hu_1 hr) (qpv 1) (qpv 0) (fun _ _=>rfl)) qpa_nil))))))
   (qpss_cons (qps_nox (qps_set (i:=4) sc_closings.nd rfl (Or.inl rfl) (qpe_lst qpa_nil)))
   (qpss_cons (qps_nox (qps_for PassesOwn.never rfl (qpi_list (qpe_callX D_pairs (hr.mono (by decide)) (by rfl) (qpa_Name (qpv 1) qpa_nil))) (qpg_tup (n:=2) rfl (qpgs_cons (qpg_name (i:=5) sc_closings.nd rfl (Or.inl rfl)) (qpgs_cons (qpg_name (i:=6) sc_closings.nd rfl (Or.inl rfl)) qpgs_nil)))
   (qpss_cons (qps_set (i:=7) sc_closings.nd rfl (Or.inr rfl) (qpe_ix ix_list (qpv 3) (qpv 5) (fun _ _=>rfl)))
    (qpss_cons (qps_set (i:=8) sc_closings.nd rfl (Or.inr rfl) (qpe_ix ix_list (qpv 3) (qpv 6) (fun _ _=>rfl)))
    (qpss_cons (qps_expr (qpe_bm PySem.F.plainAttrs_list PySem.F.slot_list_append PySem.F.type_list_append mt_append (qpv 4) (qpa_Compare (qpe_cmpR op_eq (qpv 7) (qpv 8) (nomark _)) qpa_nil)))
    (qpss_one (qps_setC (i:=3) sc_closings.nd rfl (Or.inl rfl) (own:=["group"]) (ns:=["one","two"]) (caps:=[7,8]) rfl ⟨rfl,by decide +kernel,by decide +kernel,by decide +kernel⟩ (.cons rfl rfl (.inl rfl) (.cons rfl rfl (.inl rfl) .nil)) (qpi_list (qpv 3)) (fun C s H fp pn=>(qpg_name (i:=0) (show List.Nodup ((["group"]:List Str)++(["one","two"]:List Str)) by decide +kernel) rfl (Or.inl rfl))) (fun C s H fp pn=>qpf_nil) (fun C s H fp pn=>(qpe_ifExp (qpt_cmpR op_eq (qpv 0) (qpv 2) (nomark _)) (qpv 1) (qpv 0))))))))))
   (qpss_one (qps_nox (qps_ret (qpv 4)))))))))),?_⟩
  walk_at "wp"
  refine⟨x,y,d,e,rfl,hd,td,he,te,?_⟩
  rcases h with ⟨bs,cs,ms,rfl,rfl,T,M,q⟩ | h
  rotate_left
  ·exact .inr h
  refine .inl ⟨two_wd T.bal T.balR T.len T.eq,?_⟩
  cases hd
  cases he
  have hz:(wd bs).length<=sizeLine:=by rw [wd_length];exact Nat.le_of_lt (small1000 (by have:=T.len;omega))
  have hlen:=T.len
  have en:((wd bs).length:Int).toNat=bs.length:=by rw [wd_length];omega
  walk_at "wp"
  refine⟨bs,rfl,T.bal,T.len,fun d1 k1 H1 n1 s1 h1 dc1=>?_⟩
  walk_at "wp"
  refine⟨hz,by omega,by rw [wd_length];omega,?_⟩
  rw [en]
  have PL:=mtF_prt T.bal
  refine comp_mapR (Nat.le_of_lt (small1000 (by omega))) ((lab0 bs.length (mtF bs)).map V.int) (by simp [lab0]) (fun i y Q' hi hy hq=>?_) fun p1 np1=>?_
  ·walk_at "wp"
   rw [Int.zero_add]
   have g1:=DGet.k (k:=.inl (i:Int)) h1
   rw [dc1 i hi] at g1
   have ey:y=V.int ((min i (mtF bs i):Nat):Int):=by
    unfold lab0 at hy
    rw [List.getElem?_map,List.getElem?_map,List.getElem?_range hi] at hy
    exact (Option.some.inj hy).symm
   subst ey
   have em:(if ((mtF bs i:Nat):Int)<i then ((mtF bs i:Nat):Int) else (i:Int))=((min i (mtF bs i):Nat):Int):=by split<;>omega
   refine⟨_,g1,_,_,rfl,?_⟩
   rw [em]
   exact hq
  ·walk_at "wp"
   refine⟨Nat.zero_le _,fun p2 np2=>?_⟩
   have s2:=s1.trans ((Same.refl H1).new (o:=.lst ((lab0 bs.length (mtF bs)).map V.int)) np1)
   have g1:upd H1 p1 (.lst ((lab0 bs.length (mtF bs)).map V.int)) p1=some (.lst ((lab0 bs.length (mtF bs)).map V.int)):=upd_same
   generalize upd H1 p1 (.lst ((lab0 bs.length (mtF bs)).map V.int))=H2 at s2 g1 np2 ⊢
   have n20:=s2.free np2
   refine⟨_,rfl,.inl ⟨cs,ms,rfl,T.balR,by rw [T.eq];exact T.len,M,fun l H3 nl s3 bo=>?_⟩⟩
   have sb:=(Same.refl H2).new (o:=.lst []) np2
   have npl:p2≠l:=fun e=>by subst e;rw [upd_same] at nl;cases nl
   have g12:p1≠p2:=ne_of_none g1 np2
   obtain⟨as,b1,bl,bg⟩:=bo.get
   refine⟨l,rfl,⟨_,SqL.of b1⟩,?_⟩
   have s13:=(s2.trans sb).trans s3
   have hml:=M.count T.balR
   have hte:=T.eq
   have hin:∀ p∈ms,p.1<bs.length/\p.2<bs.length:=fun p hp=>by
    have:=(M.mate p hp).1
    have h1:=this.lt
    have h2:=this.ml
    have:=T.eq
    omega
   refine for_list (xs:=as.map V.ref) (fun i σ H'=>∃ (p3:Addr) (x5 x6 x7 x8:Option V),σ=[some (.str (wd bs)),some (.str (wd cs)),some (.ref d1),some (.ref p3),some (.ref p2),x5,x6,x7,x8]/\Same H H'/\(∀ b o,H3 b=some o->b≠p2->H' b=some o)/\H' p3=some (.lst ((closC (lab0 bs.length (mtF bs)) (ms.take i)).2.map V.int))/\H' p2=some (.lst ((closC (lab0 bs.length (mtF bs)) (ms.take i)).1.map V.bl))/\(closC (lab0 bs.length (mtF bs)) (ms.take i)).2.length=bs.length/\p3≠p2)
    ⟨p1,_,_,_,_,rfl,s13,fun b o h _=>h,s3 _ _ (sb _ _ g1),s3 _ _ upd_same,by simp [closC,lab0],g12⟩ (fun i σ H' _ ⟨_,_,_,_,_,_,_,kp,_⟩=>SqL.of (kp _ _ b1 npl.symm)) ?_ ?_
   ·rintro i x σ H' hx ⟨p3,x5,x6,x7,x8,rfl,sm,kp,hg,hp2,hgl,n3⟩
    obtain⟨t,p,rfl,hp,ht⟩:=bg i x hx
    obtain⟨⟨a,b⟩,hm,rfl⟩:∃ q:Nat×Nat,ms[i]? = some q/\p=((q.1:Int),(q.2:Int)):=by
     unfold msZ at hp
     rw [List.getElem?_map] at hp
     cases e:ms[i]? with
     | none=>rw [e] at hp;cases hp
     | some q=>rw [e] at hp;exact⟨q,rfl,(Option.some.inj hp).symm⟩
    have hi:i<ms.length:=(List.getElem?_eq_some_iff.mp hm).1
    obtain⟨ha,hb⟩:=hin _ (List.mem_of_getElem? hm)
    have ntd:t≠p2:=fun z=>by
     subst z
     have:=s3 _ _ (L2.upd_same (H:=H2) (a:=t) (o:=.lst []))
     rw [ht] at this;cases this
    have ht2:=kp _ _ ht ntd
    have hcl:(closC (lab0 bs.length (mtF bs)) (ms.take i)).1.length=i:=by rw [closC_len,List.length_take];omega
    have et:ms.take (i+1)=ms.take i++[(a,b)]:=by rw [List.take_add_one,hm];rfl
    rw [et,closC_snoc]
    generalize closC (lab0 bs.length (mtF bs)) (ms.take i)=cc at hg hp2 hgl hcl ⊢
    obtain⟨ts,g⟩:=cc
    dsimp only at hg hp2 hgl hcl
    have ga:(g.map V.int)[a]? = some (.int (gv g a)):=by rw [List.getElem?_map,gv_get (by rw [hgl];exact ha)];rfl
    have gb:(g.map V.int)[b]? = some (.int (gv g b)):=by rw [List.getElem?_map,gv_get (by rw [hgl];exact hb)];rfl
    refine⟨t,_,rfl,SqT.of ht2,rfl,?_⟩
    walk_at "wp"
    refine⟨_,_,SqL.of hg,atI_nat ga,?_⟩
    refine⟨_,_,SqL.of hg,atI_nat gb,?_⟩
    walk_at "wp"
    have hg2:upd H' p2 (.lst (ts.map V.bl++[V.bl (decide (gv g a=gv g b))])) p3=some (.lst (g.map V.int)):=by rw [upd_ne n3];exact hg
    refine⟨w_tyL hp2,_,hp2,small1000 (by rw [List.length_map];omega),⟨_,SqL.of hg2⟩,comp_mapL (SqL.of hg2) (Nat.le_of_lt (small1000 (by rw [List.length_map];omega))) ((relabC g (gv g a) (gv g b)).map V.int) (by simp [relabC]) (fun j x y Q' hx hy hq=>?_) fun p4 n4=>?_⟩
    ·obtain⟨z,hz',rfl⟩:=got_map hx
     have ey:y=V.int (if z=gv g b then gv g a else z):=by
      unfold relabC at hy
      rw [List.getElem?_map,List.getElem?_map,hz'] at hy
      exact (Option.some.inj hy).symm
     subst ey
     walk_at "wp"
     refine ite2 (fun c=>?_) (fun c=>?_)
     ·rw [if_pos c] at hq;exact hq
     ·rw [if_neg c] at hq;exact hq
    ·have n42:p2≠p4:=fun e=>by subst e;rw [upd_same] at n4;cases n4
     have n4':H' p4=none:=by rw [upd_ne n42.symm] at n4;exact n4
     refine⟨p4,_,_,_,_,rfl,(sm.new n20).new (sm.free n4'),fun c o h hc=>?_,upd_same,?_,by simp [stepC,relabC,hgl],n42.symm⟩
     ·have:=kp c o h hc
      rw [upd_ne (ne_of_none this n4'),upd_ne hc];exact this
     ·rw [upd_ne n42,upd_same]
      simp [stepC]
   ·rintro σ H' ⟨p3,x5,x6,x7,x8,rfl,sm,kp,hg,hp2,hgl,n3⟩
    rw [List.length_map,bl,msZ,List.length_map,List.take_length] at hp2
    walk_at "wp"
    exact q p2 H' n20 sm hp2
theorem ok_cell_at (B:Blt mg) (E:Fn K mg "_law_cell_at" s_cell_at ["_law_script","_law_k"]):Def P w K mg base 1 "_law_cell_at" s_cell_at ["_law_script","_law_k"] (spCellA K):=E.mk' fun f fd F=>by
 refine F.okS sc_cell_at (fun vs H Q E h=>?_) (fun cdv A outer s H vs Q E hr h=>?_)
 ·obtain⟨a,ns,k,rfl,_⟩:=h
  rfl
 ·obtain⟨a,ns,k,rfl,hS,q⟩:=h
  refine⟨[some (.ref a),some (.int k)],_,rfl,(L2.QSs.h (qpss_cons (qps_if (qpt_cmpR op_lt (qpv 1) (qpe_callB call_len_seq (by rfl) B.len PySem.boot_len (qpa_Name (qpv 0) qpa_nil)) (nomark _))
   (qpss_one (qps_ret (qpe_ix ix_list (qpv 0) (qpv 1) (fun _ _=>rfl))))
   qpss_nil)
   (qpss_one (qps_ret (qpe_op op_add (qpe_op op_mul qpe_int (qpv 1)) qpe_int))))),?_⟩
  walk_at "wp"
  refine⟨_,.inl hS,?_⟩
  rw [List.length_map]
  refine ite2 (fun h=>?_) (fun h=>?_)
  ·have hk:k<ns.length:=by omega
   refine⟨_,.int (ns.getD k 0),hS,atI_nat ?_,q _⟩
   simp [List.getElem?_map,hk]
  ·exact⟨.inl ⟨by decide,by decide⟩,q _⟩
theorem ok_digits (B:Blt mg) (E:Fn K mg "_law_digits" s_digits ["_law_cell","_law_many_here"]):Def P w K mg base 1 "_law_digits" s_digits ["_law_cell","_law_many_here"] spDigs:=E.mk' fun f fd F=>by
 refine F.okS sc_digits (fun vs H Q E h=>?_) (fun cdv A outer s H vs Q E hr h=>?_)
 ·obtain⟨c,n,rfl,_⟩:=h
  rfl
 ·obtain⟨c,n,rfl,n60,q⟩:=h
  refine⟨[some (.int c),some (.int n),none,none,none],_,rfl,(L2.QSs.h (qpss_cons (qps_set (i:=2) sc_digits.nd rfl (Or.inl rfl) (qpe_op op_fdiv (qpv 0) qpe_int))
   (qpss_cut (qps_if (QW.pt (qpw_or (qpt_cmpR op_eq (qpe_op op_mod (qpv 0) qpe_int) qpe_int (nomark _)) (qpw_or1 (qpt_cmpR op_lt (qpv 0) (qpe_op op_pow qpe_int qpe_int) (nomark _)))))
   (qpss_cons (qps_set (i:=2) sc_digits.nd rfl (Or.inl rfl) qpe_int)
    (qpss_one (qps_for PassesOwn.never rfl (qpi_range1 (by rfl) B.range (qpa_Constant qpe_int qpa_nil)) (qpg_name (i:=3) sc_digits.nd rfl (Or.inl rfl))
    (qpss_one (qps_set (i:=2) sc_digits.nd rfl (Or.inl rfl) (qpe_op op_add (qpe_op op_mul (qpv 2) qpe_int) (qpe_op op_mod (qpe_op op_mul (qpe_op op_mod (qpe_op op_mul (qpe_op op_add (qpv 0) (qpe_op op_mul (qpv 3) (qpv 3))) qpe_int) qpe_int) qpe_int) qpe_int)))))))
   qpss_nil)
   (qpss_cons (qps_set (i:=4) sc_digits.nd rfl (Or.inl rfl) (qpe_lst qpa_nil))
   (qpss_cons (qps_for PassesOwn.never rfl (qpi_range1 (by rfl) B.range (qpa_Name (qpv 1) qpa_nil)) (qpg_name (i:=3) sc_digits.nd rfl (Or.inl rfl))
   (qpss_cons (qps_expr (qpe_bm PySem.F.plainAttrs_list PySem.F.slot_list_append PySem.F.type_list_append mt_append (qpv 4) (qpa_BinOp (qpe_op op_mod (qpv 2) qpe_int) qpa_nil)))
    (qpss_one (qps_set (i:=2) sc_digits.nd rfl (Or.inl rfl) (qpe_op op_fdiv (qpv 2) qpe_int)))))
   (qpss_one (qps_ret (qpv 4)))))))),?_⟩
  walk_at "wp"
  refine⟨⟨by decide,by decide⟩,?_⟩
  refine cut_intro (fun σ H'=>∃ (rest:Int) (x3:Option V),σ=[some (.int c),some (.int n),some (.int rest),x3,none]/\H'=H) ?_ ?_
  ·walk_at "wp"
   refine⟨by decide,ite2 (fun _=>⟨by decide,by decide,?_⟩) fun _=>⟨⟨by decide,by decide,by decide⟩,ite2 (fun _=>⟨by decide,by decide,?_⟩) fun _=>⟨_,_,rfl,trivial⟩⟩⟩
   all_goals
    refine for_range (n:=Int.toNat 9) (fun i σ H2=>∃ (rest:Int) (x3:Option V),σ=[some (.int c),some (.int n),some (.int rest),x3,none]/\H2=H) ⟨_,_,rfl,rfl⟩ ?_ ?_
    ·rintro i σ H2 hi ⟨rest,x3,rfl,rfl⟩
     have hi':i<9:=hi
     walk_at "wp"
     refine⟨.inr ⟨by decide,by decide⟩,.inl ⟨by omega,by omega⟩,.inr ⟨by decide,by decide⟩,by decide,.inr ⟨by decide,by decide⟩,by decide,?_⟩
     exact⟨_,_,rfl,by first | rfl | trivial⟩
    ·rintro σ H2 h
     exact h
  ·rintro σ H' ⟨rest,x3,rfl,rfl⟩
   walk_at "wp"
   refine⟨Nat.zero_le _,fun l nl=>⟨by omega,by omega,?_⟩⟩
   refine for_range (n:=n) (fun i σ H2=>∃ (rest:Int) (ds:List Int) (x3:Option V),σ=[some (.int c),some (.int n),some (.int rest),x3,some (.ref l)]/\Same H' H2/\H2 l=some (.lst (ds.map V.int))/\ds.length=i)
    ⟨_,[],_,rfl,(Same.refl H').new nl,upd_same,rfl⟩ ?_ ?_
   ·rintro i σ H2 hi ⟨rest,ds,x3,rfl,sm,hl,hlen⟩
    walk_at "wp"
    exact⟨w_tyL hl,by decide,_,hl,by rw [List.length_map];exact small1000 (by omega),⟨by decide,by decide⟩,_,ds++[_],_,rfl,sm.new nl,by rw [upd_same,List.map_append];rfl,by simp [hlen]⟩
   ·rintro σ H2 ⟨rest,ds,x3,rfl,sm,hl,hlen⟩
    walk_at "wp"
    exact q l ds H2 nl sm hl hlen
theorem ok_word (B:Blt mg) (E:Fn K mg "_law_word" s_word ["_law_cell","_law_ends"]) (D_digits:Def P w K mg base 1 "_law_digits" s_digits ["_law_cell","_law_many_here"] spDigs):Def P w K mg base 2 "_law_word" s_word ["_law_cell","_law_ends"] spWordE:=E.mk' fun f fd F=>by
 refine F.okS sc_word (fun vs H Q E h=>?_) (fun cdv A outer s H vs Q E hr h=>?_)
 ·obtain⟨c,m,rfl,_⟩:=h
  rfl
 ·obtain⟨c,m,rfl,m20,q⟩:=h
  refine⟨[some (.int c),some (.int ((2 * m:Nat):Int)),none,none,none,none],_,rfl,(L2.QSs.h (qpss_cons (qps_set (i:=2) sc_word.nd rfl (Or.inl rfl) (qpe_callD D_digits (hr.mono (by decide)) (by rfl) (qpa_Name (qpv 0) (qpa_Name (qpv 1) qpa_nil))))
   (qpss_cons (qps_set (i:=3) sc_word.nd rfl (Or.inl rfl) qpe_str)
   (qpss_cons (qps_set (i:=4) sc_word.nd rfl (Or.inl rfl) qpe_int)
   (qpss_cons (qps_for PassesOwn.never rfl (qpi_range1 (by rfl) B.range (qpa_Name (qpv 1) qpa_nil)) (qpg_name (i:=5) sc_word.nd rfl (Or.inl rfl))
   (qpss_one (qps_if (QW.pt (qpw_or (qpt_cmpR op_eq (qpv 4) qpe_int (nomark _)) (qpw_or1 (QW.pt (qpw_and (qpt_cmpR op_lt (qpv 4) (qpe_op op_sub (qpv 1) (qpv 5)) (nomark _)) (qpw_and1 (qpt_cmpR op_eq (qpe_op op_mod (qpe_ix ix_list (qpv 2) (qpv 5) (fun _ _=>rfl)) qpe_int) qpe_int (nomark _))))))))
    (qpss_cons (qps_set (i:=3) sc_word.nd rfl (Or.inl rfl) (qpe_op op_add_str (qpv 3) qpe_str))
     (qpss_one (qps_set (i:=4) sc_word.nd rfl (Or.inl rfl) (qpe_op op_add (qpv 4) qpe_int))))
    (qpss_cons (qps_set (i:=3) sc_word.nd rfl (Or.inl rfl) (qpe_op op_add_str (qpv 3) qpe_str))
     (qpss_one (qps_set (i:=4) sc_word.nd rfl (Or.inl rfl) (qpe_op op_sub (qpv 4) qpe_int)))))))
   (qpss_one (qps_ret (qpv 3)))))))),?_⟩
  walk_at "wp"
  refine⟨c,2 * m,rfl,by omega,fun dl ds H1 nd s1 hdl hdn=>?_⟩
  walk_at "wp"
  refine⟨by omega,by omega,?_⟩
  refine for_range (n:=2 * m) (fun i σ H2=>∃ (deep:Int) (bs:List Bool) (x5:Option V),σ=[some (.int c),some (.int ((2 * m:Nat):Int)),some (.ref dl),some (.str (wd bs)),some (.int deep),x5]/\H2=H1/\Grow bs deep ((2 * m:Nat) - i:Int)/\bs.length=i)
   ⟨0,[],none,by rw [wd_nil],rfl,by have:=Grow.start m (by omega);simpa using this,rfl⟩ ?_ ?_
  ·rintro i σ H2 hi ⟨deep,bs,x5,rfl,rfl,g,hl⟩
   have hz:∀ x:Str,x.length=1->(wd bs).length+x.length<=sizeLine:=fun x hx=>by rw [wd_length,hx];exact Nat.le_of_lt (small1000 (by omega))
   have er:((2 * m:Nat):Int) - ((i+1:Nat):Int)=((2 * m:Nat):Int) - i - 1:=by omega
   have ro:(0:Int)<((2 * m:Nat):Int) - i:=by omega
   have op:(deep=0\/deep<((2 * m:Nat):Int) - i)->Grow (bs++[true]) (deep+1) (((2 * m:Nat):Int) - ((i+1:Nat):Int)):=fun hd=>by rw [er];exact g.opens ro hd
   have cl:deep≠0->Grow (bs++[false]) (deep - 1) (((2 * m:Nat):Int) - ((i+1:Nat):Int)):=fun hd=>by rw [er];exact g.closes hd
   have ln:∀ b:Bool,(bs++[b]).length=i+1:=fun b=>by rw [List.length_append,hl];rfl
   have hx:ds[i]? = some ds[i]:=List.getElem?_eq_getElem (by omega)
   generalize ds[i]=dg at hx
   walk_at "wp"
   have e0:(0:Int)+i=i:=Int.zero_add _
   rw [e0]
   refine ite2 (fun h=>⟨hz _ len_open,_,bs++[true],_,by rw [wd_open],trivial,op (.inl h),ln _⟩) (fun h=>ite2 (fun h2=>⟨_,.int dg,SqL.of hdl,atI_nat (by rw [List.getElem?_map,hx];rfl),?_⟩) (fun _=>⟨hz _ len_close,_,bs++[false],_,by rw [wd_close],trivial,cl h,ln _⟩))
   walk_at "wp"
   exact⟨by decide,ite2 (fun _=>⟨hz _ len_open,_,bs++[true],_,by rw [wd_open],trivial,op (.inr h2),ln _⟩) (fun _=>⟨hz _ len_close,_,bs++[false],_,by rw [wd_close],trivial,cl h,ln _⟩)⟩
  ·rintro σ H2 ⟨deep,bs,x5,rfl,rfl,g,hl⟩
   walk_at "wp"
   exact q bs H2 (g.bal (by omega)) hl s1
theorem ok_turned_l {c_NoWord c_NoBow c_Crossed:Addr} (C_Crossed:mg "Crossed"=some (.ref c_Crossed)) (XSC:PySem.W.exmOne K (.ref c_Crossed) (.ref c_Crossed)=some true) (E:Fn K mg "_law_turned" s_turned_l ["_law_word_here","_law_i","_law_j"]) (D_turned:DefX P w K mg base 5 "turned" s_turned ["word","i","j"] (spTurned c_NoWord c_NoBow c_Crossed)):Def P w K mg base 6 "_law_turned" s_turned_l ["_law_word_here","_law_i","_law_j"] spTurnL:=E.mk' fun f fd F=>by
 refine F.okS sc_turned_l (fun vs H Q E h=>?_) (fun cdv A outer s H vs Q E hr h=>?_)
 ·obtain⟨bs,ms,i,j,rfl,_⟩:=h
  rfl
 ·obtain⟨bs,ms,i,j,rfl,b,hl,M,hij,hj,q0,q1⟩:=h
  refine⟨[some (.str (wd bs)),some (.int i),some (.int j),none],_,rfl,(L2.QSs.h (qpss_cons (qps_set (i:=3) sc_turned_l.nd rfl (Or.inl rfl) qpe_non)
   (qpss_cons (qps_tryG rfl rfl (qb_asg (j:=3) D_turned (hr.mono (by decide)) (by rfl) (qpa_Name (qpv 0) (qpa_Name (qpv 1) (qpa_Name (qpv 2) qpa_nil))) sc_turned_l.nd rfl rfl) (qh_cons rfl (by rfl) C_Crossed (fun a=>(qpss_one (qps_ret qpe_non))) qh_nil))
   (qpss_one (qps_ret (qpv 3)))))),?_⟩
  walk_at "wp"
  exact⟨_,_,_,rfl,.inr ⟨bs,ms,rfl,b,hl,M,.inr ⟨i,j,rfl,rfl,hij,hj,fun nc H1 s1=>q1 nc H1 s1,fun p hp q' hq z t dx H1 s1 tw hdx=>⟨c_Crossed,rfl,.inl ⟨XSC,fun a na=>q0 _ (s1.trans ((Same.refl H1).new na))⟩⟩⟩⟩⟩
theorem ok_many {c_NoWord:Addr} (B:Blt mg) (E:Fn K mg "_law_many" s_many ["_law_words"]) (D_rounds:DefX P w K mg base 4 "rounds" s_rounds ["left","right"] (spRoundsX c_NoWord)) (D_closings:DefX P w K mg base 4 "closings" s_closings ["left","right"] (spClosX c_NoWord)):Def P w K mg base 5 "_law_many" s_many ["_law_words"] spMany:=E.mk' fun f fd F=>by
 refine F.okS sc_many (fun vs H Q E h=>?_) (fun cdv A outer s H vs Q E hr h=>?_)
 ·obtain⟨l,bs,cs,rfl,_⟩:=h
  rfl
 ·obtain⟨l,bs,cs,rfl,hl,T,q⟩:=h
  refine⟨[some (.ref l),none],_,rfl,(L2.QSs.h (qpss_cons (qps_set (i:=1) sc_many.nd rfl (Or.inl rfl) (qpe_callB call_len_seq (by rfl) B.len PySem.boot_len (qpa_Call (qpe_callX D_rounds (hr.mono (by decide)) (by rfl) (qpa_Subscript (qpe_ix ix_list (qpv 0) qpe_int (fun _ _=>rfl)) (qpa_Subscript (qpe_ix ix_list (qpv 0) qpe_int (fun _ _=>rfl)) qpa_nil))) qpa_nil)))
   (qpss_cons (qps_if (qpt_cmpR op_ne (qpe_callB call_len_seq (by rfl) B.len PySem.boot_len (qpa_ListComp (qpe_comp (own:=["_law_told"]) (ns:=[]) (caps:=[]) rfl ⟨rfl,by decide +kernel,by decide +kernel,by decide +kernel⟩ .nil (qpi_list (qpe_callX D_closings (hr.mono (by decide)) (by rfl) (qpa_Subscript (qpe_ix ix_list (qpv 0) qpe_int (fun _ _=>rfl)) (qpa_Subscript (qpe_ix ix_list (qpv 0) qpe_int (fun _ _=>rfl)) qpa_nil)))) (fun C s H fp pn=>(qpg_name (i:=0) (show List.Nodup ((["_law_told"]:List Str)++([]:List Str)) by decide +kernel) rfl (Or.inl rfl))) (fun C s H fp pn=>(qpf_one (qpt_val (qpv 0)))) (fun C s H fp pn=>(qpv 0))) qpa_nil)) (qpv 1) (nomark _))
   (qpss_one (qps_ret (qpe_un un_neg qpe_int)))
   qpss_nil)
   (qpss_one (qps_ret (qpv 1)))))),?_⟩
  walk_at "wp"
  obtain⟨ms,M⟩:=mates_ex T.balR cs.length (Nat.le_refl _)
  have b40:=T.len
  have c40:cs.length<=40:=by have:=T.eq;omega
  refine⟨_,_,SqL.of hl,rfl,_,_,SqL.of hl,rfl,_,_,wdD bs,wdD cs,rfl,.str _,wd_txt b40,.str _,wd_txt c40,.inl ⟨bs,cs,rfl,rfl,T,fun l1 ws rs H1 nl1 s1 hl1 hw X=>?_⟩⟩
  have hl':=s1 _ _ hl
  refine⟨l1,ws,rfl,.inl (SqL.of hl1),_,_,SqL.of hl',rfl,_,_,SqL.of hl',rfl,_,_,wdD bs,wdD cs,rfl,.str _,wd_txt b40,.str _,wd_txt c40,.inl ⟨bs,cs,ms,rfl,rfl,T,M,fun l2 H2 nl2 s2 hl2=>⟨l2,rfl,⟨_,SqL.of hl2⟩,?_⟩⟩⟩
  have e:=true_rounds (rs:=rs) T M X
  have ml:ms.length<=40:=by have:=M.len;omega
  have hts:=closC_len (g:=lab0 bs.length (mtF bs)) (ms:=ms)
  generalize closC (lab0 bs.length (mtF bs)) ms=cc at hl2 hts e ⊢
  obtain⟨ts,g⟩:=cc
  dsimp only at hl2 hts e
  refine comp_list (xs:=ts.map V.bl) (fun i ys σ H'=>H'=H2/\ys=((ts.take i).filter (·=true)).map V.bl/\∃ x,σ=[x]) ⟨rfl,by simp,_,rfl⟩ ?_ (Nat.le_of_lt (small1000 (by rw [List.length_map];omega))) ?_ ?_
  ·rintro i ys σ H' ⟨rfl,rfl,_⟩
   refine⟨SqL.of hl2,?_⟩
   rw [List.length_map]
   exact Nat.le_trans (List.length_filter_le _ _) (by rw [List.length_take];omega)
  ·rintro i x ys σ H' N hx ⟨rfl,rfl,x0,rfl⟩ hN
   obtain⟨b,hb,rfl⟩:=got_map hx
   walk_at "wp"
   have et:ts.take (i+1)=ts.take i++[b]:=by rw [List.take_add_one,hb];rfl
   cases b with
   | true=>exact ifY rfl (hN _ _ _ ⟨rfl,by rw [et,List.filter_append];simp,_,rfl⟩)
   | false=>exact ifN (fun z=>nomatch z) (hN _ _ _ ⟨rfl,by rw [et,List.filter_append];simp,_,rfl⟩)
  ·rintro ys σ H' p1 ⟨rfl,rfl,_⟩ np1
   rw [List.length_map,List.take_length]
   have e2:(((ts.filter (·=true)).map V.bl).length:Int)=(ws.length:Int):=by rw [List.length_map,<-List.countP_eq_length_filter,e,hw]
   refine⟨p1,_,rfl,.inl (SqL.of upd_same),ifN (fun z=>z e2) ?_⟩
   rw [hw]
   exact q _ _ ⟨rs,X,rfl⟩ (s1.trans (s2.trans ((Same.refl _).new np1)))
theorem ok_law (B:Blt mg) (E:Fn K mg "law" s_law ["_law_script"]) (D_cell_at:Def P w K mg base 1 "_law_cell_at" s_cell_at ["_law_script","_law_k"] (spCellA K)) (D_word:Def P w K mg base 2 "_law_word" s_word ["_law_cell","_law_ends"] spWordE) (D_turned_l:Def P w K mg base 6 "_law_turned" s_turned_l ["_law_word_here","_law_i","_law_j"] spTurnL) (D_many:Def P w K mg base 5 "_law_many" s_many ["_law_words"] spMany):Def P w K mg base 7 "law" s_law ["_law_script"] (spLaw K):=E.mk' fun f fd F=>by
 refine F.okS sc_law (fun vs H Q E h=>?_) (fun cdv A outer s H vs Q E hr h=>?_)
 ·obtain⟨a,ns,rfl,_⟩:=h
  rfl
 ·obtain⟨a,cl,rfl,hS,hlen,kQ⟩:=h
  have two:(2:Nat)<=sizeLine:=by decide
  refine⟨[some (.ref a),none,none,none,none,none,none,none,none],_,rfl,(L2.QSs.h (qpss_cons (qps_set (i:=1) sc_law.nd rfl (Or.inl rfl) (qpe_op op_add qpe_int (qpe_op op_mul qpe_int (qpe_op op_mod (qpe_callD D_cell_at (hr.mono (by decide)) (by rfl) (qpa_Name (qpv 0) (qpa_Constant qpe_int qpa_nil))) qpe_int))))
   (qpss_cut (qps_if (qpt_cmpR op_eq (qpe_op op_mod (qpe_op op_fdiv (qpe_callD D_cell_at (hr.mono (by decide)) (by rfl) (qpa_Name (qpv 0) (qpa_Constant qpe_int qpa_nil))) qpe_int) qpe_int) qpe_int (nomark _))
   (qpss_one (qps_set (i:=1) sc_law.nd rfl (Or.inl rfl) (qpe_op op_add qpe_int (qpe_op op_mul qpe_int (qpe_op op_mod (qpe_op op_fdiv (qpe_callD D_cell_at (hr.mono (by decide)) (by rfl) (qpa_Name (qpv 0) (qpa_Constant qpe_int qpa_nil))) qpe_int) qpe_int)))))
   qpss_nil)
   (qpss_cut (qps_set (i:=2) sc_law.nd rfl (Or.inl rfl) (qpe_lst (qpa_Call (qpe_callD D_word (hr.mono (by decide)) (by rfl) (qpa_Call (qpe_callD D_cell_at (hr.mono (by decide)) (by rfl) (qpa_Name (qpv 0) (qpa_Constant qpe_int qpa_nil))) (qpa_Name (qpv 1) qpa_nil))) (qpa_Call (qpe_callD D_word (hr.mono (by decide)) (by rfl) (qpa_Call (qpe_callD D_cell_at (hr.mono (by decide)) (by rfl) (qpa_Name (qpv 0) (qpa_Constant qpe_int qpa_nil))) (qpa_Name (qpv 1) qpa_nil))) qpa_nil))))
   (qpss_cons (qps_set (i:=3) sc_law.nd rfl (Or.inl rfl) (qpe_callD D_many (hr.mono (by decide)) (by rfl) (qpa_Name (qpv 2) qpa_nil)))
   (qpss_cons (qps_if (qpt_cmpR op_lt (qpv 3) qpe_int (nomark _))
   (qpss_one (qps_ret qpe_bl))
   qpss_nil)
   (qpss_cut (qps_for PassesOwn.never rfl (qpi_list (qpe_op op_cat (qpe_lst (qpa_Call (qpe_callD D_cell_at (hr.mono (by decide)) (by rfl) (qpa_Name (qpv 0) (qpa_Constant qpe_int qpa_nil))) qpa_nil)) (qpe_slice sl_list (qpv 0) (qpo_some qpe_int) (qpo_some qpe_int)))) (qpg_name (i:=4) sc_law.nd rfl (Or.inl rfl))
   (qpss_cons (qps_set (i:=5) sc_law.nd rfl (Or.inl rfl) (qpe_op op_mod (qpe_op op_fdiv (qpv 4) qpe_int) (qpe_op op_fdiv (qpv 1) qpe_int)))
    (qpss_cons (qps_set (i:=6) sc_law.nd rfl (Or.inl rfl) (qpe_op op_mod (qpe_op op_fdiv (qpe_op op_fdiv (qpv 4) qpe_int) (qpe_op op_fdiv (qpv 1) qpe_int)) (qpe_callB (call_max2 rfl) (by rfl) B.max PyProof.Rows.boot_max (qpa_Constant qpe_int (qpa_Name (qpv 5) qpa_nil)))))
    (qpss_cons (qps_set (i:=7) sc_law.nd rfl (Or.inl rfl) qpe_non)
    (qpss_cut (qps_if (qpt_cmpR op_gt (qpv 5) qpe_int (nomark _))
    (qpss_one (qps_set (i:=7) sc_law.nd rfl (Or.inl rfl) (qpe_callD D_turned_l (hr.mono (by decide)) (by rfl) (qpa_Subscript (qpe_ix ix_list (qpv 2) (qpe_op op_mod (qpv 4) qpe_int) (fun _ _=>rfl)) (qpa_Name (qpv 6) (qpa_Name (qpv 5) qpa_nil))))))
    qpss_nil)
    (qpss_one (qps_if (qpt_cmpR op_notN (qpv 7) qpe_non (nomark _))
    (qpss_cons (qps_asg (qpv 7) (qpg_sub (qpv 2) (qpe_op op_mod (qpv 4) qpe_int) set_list))
     (qpss_cons (qps_set (i:=8) sc_law.nd rfl (Or.inl rfl) (qpe_callD D_many (hr.mono (by decide)) (by rfl) (qpa_Name (qpv 2) qpa_nil)))
     (qpss_cons (qps_if (QW.pt (qpw_and (qpt_cmpR op_ne (qpv 8) (qpe_op op_add (qpv 3) qpe_int) (nomark _)) (qpw_and1 (qpt_cmpR op_ne (qpv 8) (qpe_op op_sub (qpv 3) qpe_int) (nomark _)))))
     (qpss_one (qps_ret qpe_bl))
     qpss_nil)
     (qpss_one (qps_set (i:=3) sc_law.nd rfl (Or.inl rfl) (qpv 8))))))
    qpss_nil)))))))
   (qpss_one (qps_ret qpe_bl))))))))),?_⟩
  walk_at "wp"
  refine⟨a,cl,0,rfl,hS,fun c0=>?_⟩
  walk_at "wp"
  refine⟨by decide,.inl ⟨by decide,by decide⟩,?_⟩
  refine cut_intro (fun σ H'=>∃ m:Nat,σ=[some (.ref a),some (.int ((2 * m:Nat):Int)),none,none,none,none,none,none,none]/\H'=H/\1<=m/\m<=20) ?_ ?_
  ·walk_at "wp"
   refine⟨a,cl,0,rfl,hS,fun c1=>?_⟩
   walk_at "wp"
   refine⟨⟨by decide,by decide⟩,by decide,ite2 (fun _=>⟨a,cl,0,rfl,hS,fun c2=>?_⟩) (fun _=>?_)⟩
   ·walk_at "wp"
    have h1:0<=c2 / 120 % 5:=Int.emod_nonneg _ (by decide)
    have h2:c2 / 120 % 5<5:=Int.emod_lt_of_pos _ (by decide)
    generalize c2 / 120 % 5=t at h1 h2 ⊢
    refine⟨⟨by decide,by decide⟩,by decide,.inl ⟨by decide,by decide⟩,16+t.toNat,?_,by first | rfl | trivial,by omega,by omega⟩
    rw [show (32:Int)+2 * t=((2 * (16+t.toNat):Nat):Int) by omega]
   ·have h1:0<=c0 % 15:=Int.emod_nonneg _ (by decide)
    have h2:c0 % 15<15:=Int.emod_lt_of_pos _ (by decide)
    generalize c0 % 15=t at h1 h2 ⊢
    refine⟨1+t.toNat,?_,by first | rfl | trivial,by omega,by omega⟩
    rw [show (2:Int)+2 * t=((2 * (1+t.toNat):Nat):Int) by omega]
  rintro σ H' ⟨m,rfl,rfl,m1,m20⟩
  refine cut_intro (fun σ H1=>∃ l bs cs,σ=[some (.ref a),some (.int ((2 * m:Nat):Int)),some (.ref l),none,none,none,none,none,none]/\Same H' H1/\H' l=none/\H1 l=some (.lst [.str (wd bs),.str (wd cs)])/\Bal bs/\Bal cs/\bs.length=2 * m/\cs.length=2 * m) ?_ ?_
  ·walk_at "wp"
   refine⟨a,cl,1,rfl,hS,fun c1=>⟨c1,m,rfl,m20,fun bs H1 b1 e1 s1=>⟨a,cl,2,rfl,s1.seq hS,fun c2=>⟨c2,m,rfl,m20,fun cs H2 b2 e2 s2=>⟨two,fun l nl=>?_⟩⟩⟩⟩⟩
   exact⟨l,bs,cs,rfl,s1.trans (s2.trans ((Same.refl _).new nl)),(s1.trans s2).free nl,upd_same,b1,b2,e1,e2⟩
  rintro σ H1 ⟨l,bs0,cs0,rfl,s1,nl,hl,b1,b2,e1,e2⟩
  walk_at "wp"
  refine⟨l,bs0,cs0,rfl,hl,⟨b1,b2,by omega,by omega⟩,fun k0 H2 rc0 s2=>?_⟩
  have hl2:=s2 _ _ hl
  have hS2:=(s1.trans s2).seq hS
  have k1:=rc0.pos (by omega)
  walk_at "wp"
  refine ifN (by omega) ?_
  refine cut_intro (fun σ H3=>True) ?_ ?_
  ·walk_at "wp"
   refine⟨a,cl,3,rfl,hS2,fun c3=>⟨(show 1<=sizeLine by decide),fun p1 np1=>?_⟩⟩
   have t1:=(Same.refl H2).new (o:=.lst [.int c3]) np1
   walk_at "wp"
   refine⟨a,_,rfl,t1.seq hS2,fun p2 np2=>?_⟩
   have t2:=(Same.refl (upd H2 p1 (.lst [.int c3]))).new (o:=.lst (cutV (cl.map V.int) (some 4) (some 23))) np2
   have cvl:=cutV_length (cl.map V.int) (some 4) (some 23)
   rw [List.length_map] at cvl
   have allI:∀ x∈[V.int c3]++cutV (cl.map V.int) (some 4) (some 23),∃ z:Int,x=.int z:=fun x hx=>by
    rcases List.mem_append.mp hx with h | h
    ·exact⟨c3,by simpa using h⟩
    ·unfold cutV at h
     obtain⟨z,_,e⟩:=List.mem_map.mp (List.mem_of_mem_drop (List.mem_of_mem_take h))
     exact⟨z,e.symm⟩
   generalize cutV (cl.map V.int) (some 4) (some 23)=tlx at *
   refine⟨p1,p2,_,_,rfl,rfl,t2 _ _ upd_same,upd_same,Nat.le_of_lt (small1000 (by simp;omega)),fun p3 np3=>?_⟩
   have t3:=(t1.trans t2).trans ((Same.refl _).new (o:=.lst ([V.int c3]++tlx)) np3)
   have hp3:upd (upd (upd H2 p1 (.lst [.int c3])) p2 (.lst tlx)) p3 (.lst ([V.int c3]++tlx)) p3=some (.lst ([V.int c3]++tlx)):=upd_same
   have lp3:l≠p3:=ne_of_none ((t1.trans t2) _ _ hl2) np3
   generalize upd (upd (upd H2 p1 (.lst [.int c3])) p2 (.lst tlx)) p3 (.lst ([V.int c3]++tlx))=H5 at t3 hp3 ⊢
   have hl5:=t3 _ _ hl2
   refine⟨p3,rfl,⟨_,SqL.of hp3⟩,?_⟩
   refine for_list (xs:=[V.int c3]++tlx) (fun t σ H6=>∃ (x4 x5 x6 x7 x8:Option V) (bs cs:List Bool) (k:Nat),σ=[some (.ref a),some (.int ((2 * m:Nat):Int)),some (.ref l),some (.int (k:Int)),x4,x5,x6,x7,x8]/\(∀ b o,b≠l->H5 b=some o->H6 b=some o)/\H6 l=some (.lst [.str (wd bs),.str (wd cs)])/\Bal bs/\Bal cs/\bs.length=2 * m/\cs.length=2 * m/\RC bs cs k) ⟨_,_,_,_,_,bs0,cs0,k0,rfl,fun _ _ _ h=>h,hl5,b1,b2,e1,e2,rc0⟩ (fun t σ H6 _ ⟨_,_,_,_,_,_,_,_,_,kp,_⟩=>SqL.of (kp _ _ lp3.symm hp3)) ?_ (fun _ _ _=>trivial)
   rintro t x σ H6 hx ⟨x4,x5,x6,x7,x8,bs,cs,k,rfl,kp,hl6,bb,bc,eb,ec,rc⟩
   obtain⟨z,rfl⟩:=allI x (List.mem_of_getElem? hx)
   have hd2:(((2 * m:Nat):Int)) / 2=(m:Int):=by omega
   have j0:0<=z / 2 % (m:Int):=Int.emod_nonneg _ (by omega)
   have j1:z / 2 % (m:Int)<m:=Int.emod_lt_of_pos _ (by omega)
   obtain⟨j,hj⟩:=Int.eq_ofNat_of_zero_le j0
   have u0:z % 2=0\/z % 2=1:=by omega
   walk_at "wp"
   rw [hd2,hj]
   have I0:0<=z / 2 / (m:Int) % (if (j:Int) > 1 then (j:Int) else 1):=Int.emod_nonneg _ (by split<;>omega)
   have I1:0<j->z / 2 / (m:Int) % (if (j:Int) > 1 then (j:Int) else 1)<j:=fun h=>by
    have eD:(if (j:Int) > 1 then (j:Int) else 1)=j:=by split<;>omega
    rw [eD]
    exact Int.emod_lt_of_pos _ (by omega)
   obtain⟨i,hi⟩:=Int.eq_ofNat_of_zero_le I0
   have ip:(0:Int)<if (j:Int) > 1 then (j:Int) else 1:=by split<;>omega
   refine⟨⟨by decide,by decide⟩,⟨by decide,by decide⟩,by omega,⟨by decide,by decide⟩,⟨by decide,by decide⟩,⟨by omega,by omega⟩,ip,?_⟩
   rw [hi] at I1 ⊢
   clear ip hi I0
   have T:TwoW bs cs:=⟨bb,bc,by omega,by omega⟩
   refine cut_intro (fun σ H7=>∃ v:V,σ=[some (.ref a),some (.int ((2 * m:Nat):Int)),some (.ref l),some (.int (k:Int)),some (.int z),some (.int (j:Nat)),some (.int (i:Nat)),some v,x8]/\Same H6 H7/\(v=.non\/∃ w',v=.str (wd w')/\Bal w'/\w'.length=2 * m/\((z % 2=0/\∀ k',RC w' cs k'->k'=k+1\/k=k'+1)\/(z % 2=1/\∀ k',RC bs w' k'->k'=k+1\/k=k'+1)))) ?_ ?_
   ·walk_at "wp"
    refine ite2 (fun jp=>?_) (fun _=>⟨_,rfl,Same.refl _,.inl rfl⟩)
    have jp':0<j:=by omega
    have ij:=I1 jp'
    rcases u0 with u0 | u0
    ·obtain⟨ms,M⟩:=mates_ex bb bs.length (Nat.le_refl _)
     have mc:=M.count bb
     refine⟨by decide,_,_,SqL.of hl6,by rw [u0];rfl,bs,ms,i,j,rfl,bb,by omega,M,by omega,by omega,fun H7 s7=>⟨_,rfl,s7,.inl rfl⟩,fun nc H7 s7=>⟨_,rfl,s7,.inr ⟨_,rfl,trn_bal bb M (by omega) (by omega),by rw [trn_length bb M (by omega) (by omega)];exact eb,.inl ⟨u0,fun k' rc'=>RC.left T M (by omega) (by omega) nc rc rc'⟩⟩⟩⟩
    ·obtain⟨ms,M⟩:=mates_ex bc cs.length (Nat.le_refl _)
     have mc:=M.count bc
     refine⟨by decide,_,_,SqL.of hl6,by rw [u0];rfl,cs,ms,i,j,rfl,bc,by omega,M,by omega,by omega,fun H7 s7=>⟨_,rfl,s7,.inl rfl⟩,fun nc H7 s7=>⟨_,rfl,s7,.inr ⟨_,rfl,trn_bal bc M (by omega) (by omega),by rw [trn_length bc M (by omega) (by omega)];exact ec,.inr ⟨u0,fun k' rc'=>RC.right T M (by omega) (by omega) nc rc rc'⟩⟩⟩⟩
   rintro σ H7 ⟨v,rfl,s7,hv⟩
   have hl7:=s7 _ _ hl6
   have kp7:∀ b o,b≠l->H5 b=some o->H7 b=some o:=fun b o nb hb=>s7 _ _ (kp b o nb hb)
   rcases hv with rfl | ⟨w',rfl,bw,ew,hw⟩
   ·walk_at "wp"
    exact⟨by first | rfl | trivial,ifN (fun y=>y (by first | rfl | trivial)) ⟨_,_,_,_,_,bs,cs,k,rfl,kp7,hl7,bb,bc,eb,ec,rc⟩⟩
   ·have fin:∀ (xs ys:List Bool) (H8:Hp),TwoW xs ys->xs.length=2 * m->ys.length=2 * m->(∀ k',RC xs ys k'->k'=k+1\/k=k'+1)->H8=upd H7 l (.lst [.str (wd xs),.str (wd ys)])->∀ (R:V->Hp->Prop),(∀ k' H',RC xs ys k'->(k'=k+1\/k=k'+1)->(∀ b o,b≠l->H5 b=some o->H' b=some o)->H' l=some (.lst [.str (wd xs),.str (wd ys)])->R (.int (k':Nat)) H')->spMany [.ref l] H8 R E0:=by
     rintro xs ys _ TT ex ey hk rfl R hR
     refine⟨l,xs,ys,rfl,upd_same,TT,fun k' H' rc' s'=>hR k' H' rc' (hk k' rc') (fun b o nb hb=>s' _ _ (by rw [upd_ne nb];exact kp7 b o nb hb)) (s' _ _ upd_same)⟩
    walk_at "wp"
    refine⟨by first | rfl | trivial,ifY (fun e=>nomatch e) ⟨by decide,?_⟩⟩
    rcases hw with ⟨u,h⟩ | ⟨u,h⟩
    ·rw [u]
     refine⟨l,_,0,0,rfl,rfl,hl7,rfl,fin w' cs _ ⟨bw,bc,by omega,by omega⟩ ew ec h rfl _ fun k' H' rc' pm kp' hl'=>?_⟩
     walk_at "wp"
     refine ite2 (fun n1=>ifN (fun n2=>by rcases pm with z | z<;>omega) ?_) (fun n1=>?_)
     ·exact⟨_,_,_,_,_,w',cs,k',rfl,kp',hl',bw,bc,ew,ec,rc'⟩
     ·exact⟨_,_,_,_,_,w',cs,k',rfl,kp',hl',bw,bc,ew,ec,rc'⟩
    ·rw [u]
     refine⟨l,_,1,1,rfl,rfl,hl7,rfl,fin bs w' _ ⟨bb,bw,by omega,by omega⟩ eb ew h rfl _ fun k' H' rc' pm kp' hl'=>?_⟩
     walk_at "wp"
     refine ite2 (fun n1=>ifN (fun n2=>by rcases pm with z | z<;>omega) ?_) (fun n1=>?_)
     ·exact⟨_,_,_,_,_,bs,w',k',rfl,kp',hl',bb,bw,eb,ew,rc'⟩
     ·exact⟨_,_,_,_,_,bs,w',k',rfl,kp',hl',bb,bw,eb,ew,rc'⟩
  ·rintro σ H3 _
   walk_at "wp"
   exact kQ _
end
def FnIn(K:PySem.W.Frag)(x:Str)(st:Stmt):Prop:=∃ (f:Addr) (oc:Value) (od an:Option Addr) (osl:Array (Option Value)) (kV doc pm cdv ct:Value),PySem.W.nsIn K mainGlobals x=some (some (.ref f))/\K.lookup f=some ⟨oc,od,.func (PySem.W.fnOf x x (defArgs st) (defBody st) (defScope st) .none kV doc pm an cdv ct),osl⟩/\PySem.W.codeIn K cdv x=true/\PySem.W.keepIn K (.ref f)=true
theorem fnIn{K:PySem.W.Frag}{x:Str}{st:Stmt}{f:Addr}{oc:Value}{od an:Option Addr}{osl:Array (Option Value)}{kV doc pm cdv ct:Value}(a:PySem.W.nsIn K mainGlobals x=some (some (.ref f)))(l:K.lookup f=some ⟨oc,od,.func (PySem.W.fnOf x x (defArgs st) (defBody st) (defScope st) .none kV doc pm an cdv ct),osl⟩)(c:PySem.W.codeIn K cdv x=true)(k:PySem.W.keepIn K (.ref f)=true):FnIn K x st:=⟨_,_,_,_,_,_,_,_,_,_,a,l,c,k⟩
theorem fn_mk{K:PySem.W.Frag}{h:Heap}{mg:Str->Option Value}(X:K.In h)(G:h.Ns mainGlobals mg){x:Str}{st:Stmt}{ps:List Str}(a:FnIn K x st)
  (hb:∀ (kV doc pm:Value) (an:Option Addr) (cdv ct:Value) (us:List Value),us.length=ps.length->bindArgs (PySem.W.fnOf x x (defArgs st) (defBody st) (defScope st) .none kV doc pm an cdv ct) ⟨us,[]⟩=pure (ps.zip us)):Fn K mg x st ps:=
 let ⟨f,_,_,_,_,_,_,_,_,_,a,l,c,k⟩:=a
 have F:=fun_mk (st:=st) l c k
 ⟨f,_,F,PySem.W.mg_of X G a,F.binds hb⟩
theorem all_mk {l:PySem.W.OpenLaw} {w:World} {K:PySem.W.Frag} {h:Heap} {mg:Str->Option Value} {fa:Addr} (X:K.In h) (G:h.Ns mainGlobals mg) (hfa:mg "law"=some (.ref fa))
  (a_crossing:FnIn K "crossing" s_crossing)
  (a_lies_within:FnIn K "lies_within" s_lies_within)
  (a_is_whole:FnIn K "is_whole" s_is_whole)
  (a_is_below:FnIn K "is_below" s_is_below)
  (a_is_word:FnIn K "is_word" s_is_word)
  (a_pairs:FnIn K "pairs" s_pairs)
  (a_is_bow:FnIn K "is_bow" s_is_bow)
  (a_fills_a_word:FnIn K "fills_a_word" s_fills_a_word)
  (a_word_of:FnIn K "word_of" s_word_of)
  (a_turn_of:FnIn K "turn_of" s_turn_of)
  (a_turned:FnIn K "turned" s_turned)
  (a_vet_words:FnIn K "vet_words" s_vet_words)
  (a_partners:FnIn K "partners" s_partners)
  (a_round_from:FnIn K "round_from" s_round_from)
  (a_rounds:FnIn K "rounds" s_rounds)
  (a_closings:FnIn K "closings" s_closings)
  (a_cell_at:FnIn K "_law_cell_at" s_cell_at)
  (a_digits:FnIn K "_law_digits" s_digits)
  (a_word:FnIn K "_law_word" s_word)
  (a_turned_l:FnIn K "_law_turned" s_turned_l)
  (a_many:FnIn K "_law_many" s_many)
  (a_law:FnIn K "law" s_law)
  {t_MOST_SIGNS:Tok} (y_MOST_SIGNS:PySem.W.nsIn K mainGlobals "MOST_SIGNS"=some (some (.int 40 t_MOST_SIGNS)))
  {c_RingError:Addr} (y_RingError:PySem.W.nsIn K mainGlobals "RingError"=some (some (.ref c_RingError)))
  {c_Crossed:Addr} (y_Crossed:PySem.W.nsIn K mainGlobals "Crossed"=some (some (.ref c_Crossed)))
  {c_NoWord:Addr} (y_NoWord:PySem.W.nsIn K mainGlobals "NoWord"=some (some (.ref c_NoWord)))
  {c_NoBow:Addr} (y_NoBow:PySem.W.nsIn K mainGlobals "NoBow"=some (some (.ref c_NoBow)))
  {NR:Addr} {dR_x dM_x:Option Addr} {cdR_x:ClassData} {slR_x slM_x:Array (Option Value)} {cM_x:Value} {es2_x:Array DictEntry} {ep2_x:Nat}
  (x_lkR:K.lookup c_RingError=some ⟨.type "type",dR_x,.cls cdR_x,slR_x⟩) (x_eR:cdR_x.ns=NR) (x_lkM:K.lookup NR=some ⟨cM_x,dM_x,.dict es2_x ep2_x,slM_x⟩) (x_nR:L2.strKeys es2_x=true)
  (x_r1:PySem.W.nsIn K NR "__init__"=some none)
  (x_r2:PySem.W.nsIn K NR "__getattribute__"=some none)
  (x_r3:PySem.W.nsIn K NR "__getattr__"=some none)
  (x_r4:PySem.W.nsIn K NR "args"=some none)
  (x_sp:PySem.W.specialIn K (.builtin "object.__class__") "__get__"=some (some (.builtin "getset_descriptor.__get__"))) (x_tk:PySem.W.takesIn K (.builtin "object.__class__")=some true) (x_rb:PySem.W.mroIn K c_RingError (.type "BaseException")=some true)
  (x_rd:PySem.W.readsIn K c_RingError (.type "type")=true) (x_sg:PySem.W.specialIn K (.ref c_RingError) "__getattribute__"=some (some (.builtin "type.__getattribute__"))) (x_fi:PySem.W.findCls K (.ref c_RingError) (.type "type") "__init__"=some (.val (.builtin "ValueError.__init__")))
  {N_NoWord:Addr} {nm_NoWord q_NoWord:Str} {bs_NoWord:List Value} {hd_NoWord:Bool} {sn_NoWord:List Str} {sub_NoWord:List Value} {ab_NoWord:Bool} {col_NoWord:Option Bool} {dd_NoWord dN_NoWord:Option Addr} {k0_NoWord k1_NoWord k2_NoWord k3_NoWord k5_NoWord:Option Value} {slN_NoWord:Array (Option Value)} {cN_NoWord:Value} {es_NoWord:Array DictEntry} {ep_NoWord:Nat}
  (e_NoWord_lkC:K.lookup c_NoWord=some (excClassObj nm_NoWord q_NoWord c_NoWord N_NoWord bs_NoWord (.ref c_RingError::[.type "ValueError",.type "Exception",.type "BaseException",.type "object"]) hd_NoWord sn_NoWord sub_NoWord ab_NoWord col_NoWord dd_NoWord k0_NoWord k1_NoWord k2_NoWord k3_NoWord k5_NoWord "ValueError.__new__")) (e_NoWord_lkN:K.lookup N_NoWord=some ⟨cN_NoWord,dN_NoWord,.dict es_NoWord ep_NoWord,slN_NoWord⟩) (e_NoWord_nC:L2.strKeys es_NoWord=true)
  (e_NoWord_iC:PySem.W.nsIn K N_NoWord "__init__"=some none)
  (e_NoWord_ga:PySem.W.findIn K (.ref c_NoWord) "__getattribute__"=some (some (.builtin "BaseException.__getattribute__"))) (e_NoWord_gt:PySem.W.findIn K (.ref c_NoWord) "__getattr__"=some none) (e_NoWord_gc:PySem.W.findIn K (.ref c_NoWord) "__class__"=some (some (.builtin "object.__class__"))) (e_NoWord_mr:PySem.W.mroIn K c_NoWord (.type "object")=some true)
  (e_NoWord_cr:PySem.W.mroIn K c_NoWord (.ref c_RingError)=some true) (e_NoWord_vt:PySem.W.mroIn K c_NoWord (.type "ValueError")=some true) (e_NoWord_cs:PySem.W.mroIn K c_NoWord (.ref c_NoWord)=some true) (e_NoWord_cb:PySem.W.mroIn K c_NoWord (.type "BaseException")=some true)
  (e_NoWord_mr_Crossed:PySem.W.mroIn K c_NoWord (.ref c_Crossed)=some false) (e_NoWord_ne_Crossed:(Value.ref c_NoWord==Value.ref c_Crossed)=false)
  (e_NoWord_mr_NoBow:PySem.W.mroIn K c_NoWord (.ref c_NoBow)=some false) (e_NoWord_ne_NoBow:(Value.ref c_NoWord==Value.ref c_NoBow)=false)
  {N_NoBow:Addr} {nm_NoBow q_NoBow:Str} {bs_NoBow:List Value} {hd_NoBow:Bool} {sn_NoBow:List Str} {sub_NoBow:List Value} {ab_NoBow:Bool} {col_NoBow:Option Bool} {dd_NoBow dN_NoBow:Option Addr} {k0_NoBow k1_NoBow k2_NoBow k3_NoBow k5_NoBow:Option Value} {slN_NoBow:Array (Option Value)} {cN_NoBow:Value} {es_NoBow:Array DictEntry} {ep_NoBow:Nat}
  (e_NoBow_lkC:K.lookup c_NoBow=some (excClassObj nm_NoBow q_NoBow c_NoBow N_NoBow bs_NoBow (.ref c_RingError::[.type "ValueError",.type "Exception",.type "BaseException",.type "object"]) hd_NoBow sn_NoBow sub_NoBow ab_NoBow col_NoBow dd_NoBow k0_NoBow k1_NoBow k2_NoBow k3_NoBow k5_NoBow "ValueError.__new__")) (e_NoBow_lkN:K.lookup N_NoBow=some ⟨cN_NoBow,dN_NoBow,.dict es_NoBow ep_NoBow,slN_NoBow⟩) (e_NoBow_nC:L2.strKeys es_NoBow=true)
  (e_NoBow_iC:PySem.W.nsIn K N_NoBow "__init__"=some none)
  (e_NoBow_ga:PySem.W.findIn K (.ref c_NoBow) "__getattribute__"=some (some (.builtin "BaseException.__getattribute__"))) (e_NoBow_gt:PySem.W.findIn K (.ref c_NoBow) "__getattr__"=some none) (e_NoBow_gc:PySem.W.findIn K (.ref c_NoBow) "__class__"=some (some (.builtin "object.__class__"))) (e_NoBow_mr:PySem.W.mroIn K c_NoBow (.type "object")=some true)
  (e_NoBow_cr:PySem.W.mroIn K c_NoBow (.ref c_RingError)=some true) (e_NoBow_vt:PySem.W.mroIn K c_NoBow (.type "ValueError")=some true) (e_NoBow_cs:PySem.W.mroIn K c_NoBow (.ref c_NoBow)=some true) (e_NoBow_cb:PySem.W.mroIn K c_NoBow (.type "BaseException")=some true)
  (e_NoBow_mr_Crossed:PySem.W.mroIn K c_NoBow (.ref c_Crossed)=some false) (e_NoBow_ne_Crossed:(Value.ref c_NoBow==Value.ref c_Crossed)=false)
  (e_NoBow_mr_NoWord:PySem.W.mroIn K c_NoBow (.ref c_NoWord)=some false) (e_NoBow_ne_NoWord:(Value.ref c_NoBow==Value.ref c_NoWord)=false)
  {N_Crossed:Addr} {nm_Crossed q_Crossed:Str} {bs_Crossed:List Value} {sn_Crossed:List Str} {sub_Crossed:List Value} {ab_Crossed:Bool} {col_Crossed:Option Bool} {dd_Crossed dN_Crossed:Option Addr} {k0_Crossed k1_Crossed k2_Crossed k3_Crossed k5_Crossed:Option Value} {slN_Crossed:Array (Option Value)} {cN_Crossed:Value} {es_Crossed:Array DictEntry} {ep_Crossed:Nat}
  {fi_Crossed:Addr} {od_Crossed an_Crossed:Option Addr} {sl_Crossed:Array (Option Value)} {oc_Crossed kV_Crossed dc_Crossed pm_Crossed cd_Crossed ct_Crossed:Value}
  (e_Crossed_lkC:K.lookup c_Crossed=some (excClassObj nm_Crossed q_Crossed c_Crossed N_Crossed bs_Crossed (.ref c_RingError::[.type "ValueError",.type "Exception",.type "BaseException",.type "object"]) true sn_Crossed sub_Crossed ab_Crossed col_Crossed dd_Crossed k0_Crossed k1_Crossed k2_Crossed k3_Crossed k5_Crossed "ValueError.__new__")) (e_Crossed_lkN:K.lookup N_Crossed=some ⟨cN_Crossed,dN_Crossed,.dict es_Crossed ep_Crossed,slN_Crossed⟩) (e_Crossed_nC:L2.strKeys es_Crossed=true)
  (e_Crossed_iC:PySem.W.nsIn K N_Crossed "__init__"=some (some (.ref fi_Crossed)))
  (e_Crossed_ga:PySem.W.findIn K (.ref c_Crossed) "__getattribute__"=some (some (.builtin "BaseException.__getattribute__"))) (e_Crossed_gt:PySem.W.findIn K (.ref c_Crossed) "__getattr__"=some none) (e_Crossed_gc:PySem.W.findIn K (.ref c_Crossed) "__class__"=some (some (.builtin "object.__class__"))) (e_Crossed_mr:PySem.W.mroIn K c_Crossed (.type "object")=some true)
  (e_Crossed_cr:PySem.W.mroIn K c_Crossed (.ref c_RingError)=some true) (e_Crossed_vt:PySem.W.mroIn K c_Crossed (.type "ValueError")=some true) (e_Crossed_cs:PySem.W.mroIn K c_Crossed (.ref c_Crossed)=some true) (e_Crossed_cb:PySem.W.mroIn K c_Crossed (.type "BaseException")=some true)
  (e_Crossed_mr_NoWord:PySem.W.mroIn K c_Crossed (.ref c_NoWord)=some false) (e_Crossed_ne_NoWord:(Value.ref c_Crossed==Value.ref c_NoWord)=false)
  (e_Crossed_mr_NoBow:PySem.W.mroIn K c_Crossed (.ref c_NoBow)=some false) (e_Crossed_ne_NoBow:(Value.ref c_Crossed==Value.ref c_NoBow)=false)
  (e_Crossed_sa:PySem.W.findIn K (.ref c_Crossed) "__setattr__"=some (some (.builtin "object.__setattr__"))) (e_Crossed_no:PySem.W.findIn K (.ref c_Crossed) "bows"=some none)
  (e_Crossed_fl:K.lookup fi_Crossed=some ⟨oc_Crossed,od_Crossed,.func (PySem.W.fnOf "__init__" "Crossed.__init__" (defArgs s_ini_Crossed) (defBody s_ini_Crossed) (defScope s_ini_Crossed) .none kV_Crossed dc_Crossed pm_Crossed an_Crossed cd_Crossed ct_Crossed),sl_Crossed⟩) (e_Crossed_fc:PySem.W.codeIn K cd_Crossed "Crossed.__init__"=true) (e_Crossed_fk:PySem.W.keepIn K (.ref fi_Crossed)=true) (e_Crossed_ty:PySem.W.typeIn K (.ref fi_Crossed)=some (.type "function")) (e_Crossed_kc:PySem.W.keepIn K (.ref c_Crossed)=true)
  (z_len:PySem.W.nsIn K mainGlobals "len"=some none) (z_range:PySem.W.nsIn K mainGlobals "range"=some none) (z_int:PySem.W.nsIn K mainGlobals "int"=some none) (z_list:PySem.W.nsIn K mainGlobals "list"=some none) (z_tuple:PySem.W.nsIn K mainGlobals "tuple"=some none) (z_isinstance:PySem.W.nsIn K mainGlobals "isinstance"=some none) (z_str:PySem.W.nsIn K mainGlobals "str"=some none) (z_bool:PySem.W.nsIn K mainGlobals "bool"=some none) (z_sorted:PySem.W.nsIn K mainGlobals "sorted"=some none) (z_all:PySem.W.nsIn K mainGlobals "all"=some none) (z_enumerate:PySem.W.nsIn K mainGlobals "enumerate"=some none) (z_max:PySem.W.nsIn K mainGlobals "max"=some none) (z_min:PySem.W.nsIn K mainGlobals "min"=some none) (z_ValueError:PySem.W.nsIn K mainGlobals "ValueError"=some none) :
  ∃ fd:FuncData,(∀ (s:Shared) (v:Value),BindsTo s fd ⟨[v],[]⟩ [("_law_script",v)])/\∀ base:Heap,K.In base->base.Ns mainGlobals mg->FnOk l.prog w K mg base CX0 7 fa fd ["_law_script"] (spLaw K):=by
 have B:Blt mg:=⟨PySem.W.mg_none_of X G z_len,PySem.W.mg_none_of X G z_range,PySem.W.mg_none_of X G z_int,PySem.W.mg_none_of X G z_list,PySem.W.mg_none_of X G z_tuple,PySem.W.mg_none_of X G z_isinstance,PySem.W.mg_none_of X G z_str,PySem.W.mg_none_of X G z_bool,PySem.W.mg_none_of X G z_sorted,PySem.W.mg_none_of X G z_all,PySem.W.mg_none_of X G z_enumerate,PySem.W.mg_none_of X G z_max,PySem.W.mg_none_of X G z_min,PySem.W.mg_none_of X G z_ValueError,⟨_,PySem.W.mg_of X G y_MOST_SIGNS⟩⟩
 have C_RingError:mg "RingError"=some (.ref c_RingError):=PySem.W.mg_of X G y_RingError
 have C_Crossed:mg "Crossed"=some (.ref c_Crossed):=PySem.W.mg_of X G y_Crossed
 have C_NoWord:mg "NoWord"=some (.ref c_NoWord):=PySem.W.mg_of X G y_NoWord
 have C_NoBow:mg "NoBow"=some (.ref c_NoBow):=PySem.W.mg_of X G y_NoBow
 have XF_NoWord:L2.ExcK K c_NoWord/\∀ base:Heap,K.In base->base.Ns mainGlobals mg->OwnCls "NoWord" c_NoWord [.type "ValueError",.type "Exception",.type "BaseException",.type "object"] "ValueError.__new__" mg base:=⟨(L2.exc_facts X G y_NoWord e_NoWord_lkC x_lkR (L2.nsOk_of e_NoWord_lkN e_NoWord_nC) e_NoWord_iC x_eR (L2.nsOk_of x_lkM x_nR) x_r1 x_r2 x_r3 x_r4 F.attrBase_ValueError e_NoWord_ga e_NoWord_gt e_NoWord_gc x_sp x_tk e_NoWord_mr).2,fun base KB GB=>(L2.exc_facts KB GB y_NoWord e_NoWord_lkC x_lkR (L2.nsOk_of e_NoWord_lkN e_NoWord_nC) e_NoWord_iC x_eR (L2.nsOk_of x_lkM x_nR) x_r1 x_r2 x_r3 x_r4 F.attrBase_ValueError e_NoWord_ga e_NoWord_gt e_NoWord_gc x_sp x_tk e_NoWord_mr).1⟩
 have XJ_NoWord:L2.Jst K c_NoWord [c_Crossed,c_NoWord,c_NoBow] 1:=⟨XF_NoWord.1,fun j d h=>match j,h with | 0,h=>by cases h;exact L2.kit_other e_NoWord_ne_Crossed e_Crossed_lkC e_NoWord_mr_Crossed | 1,h=>by cases h;exact L2.kit_self | 2,h=>by cases h;exact L2.kit_other e_NoWord_ne_NoBow e_NoBow_lkC e_NoWord_mr_NoBow | j+3,h=>by simp at h,L2.kit_type (by decide) e_NoWord_vt⟩
 have XM_NoWord:PySem.W.exmOne K (.ref c_NoWord) (.ref c_RingError)=some true:=L2.exm_own x_lkR e_NoWord_cr x_rb
 have XS_NoWord:PySem.W.exmOne K (.ref c_NoWord) (.ref c_NoWord)=some true:=L2.exm_own e_NoWord_lkC e_NoWord_cs e_NoWord_cb
 have XN_NoWord_NoBow:PySem.W.exmOne K (.ref c_NoWord) (.ref c_NoBow)=some false:=L2.exm_own e_NoBow_lkC e_NoWord_mr_NoBow e_NoBow_cb
 have XN_NoWord_Crossed:PySem.W.exmOne K (.ref c_NoWord) (.ref c_Crossed)=some false:=L2.exm_own e_Crossed_lkC e_NoWord_mr_Crossed e_Crossed_cb
 have XF_NoBow:L2.ExcK K c_NoBow/\∀ base:Heap,K.In base->base.Ns mainGlobals mg->OwnCls "NoBow" c_NoBow [.type "ValueError",.type "Exception",.type "BaseException",.type "object"] "ValueError.__new__" mg base:=⟨(L2.exc_facts X G y_NoBow e_NoBow_lkC x_lkR (L2.nsOk_of e_NoBow_lkN e_NoBow_nC) e_NoBow_iC x_eR (L2.nsOk_of x_lkM x_nR) x_r1 x_r2 x_r3 x_r4 F.attrBase_ValueError e_NoBow_ga e_NoBow_gt e_NoBow_gc x_sp x_tk e_NoBow_mr).2,fun base KB GB=>(L2.exc_facts KB GB y_NoBow e_NoBow_lkC x_lkR (L2.nsOk_of e_NoBow_lkN e_NoBow_nC) e_NoBow_iC x_eR (L2.nsOk_of x_lkM x_nR) x_r1 x_r2 x_r3 x_r4 F.attrBase_ValueError e_NoBow_ga e_NoBow_gt e_NoBow_gc x_sp x_tk e_NoBow_mr).1⟩
 have XJ_NoBow:L2.Jst K c_NoBow [c_Crossed,c_NoWord,c_NoBow] 2:=⟨XF_NoBow.1,fun j d h=>match j,h with | 0,h=>by cases h;exact L2.kit_other e_NoBow_ne_Crossed e_Crossed_lkC e_NoBow_mr_Crossed | 1,h=>by cases h;exact L2.kit_other e_NoBow_ne_NoWord e_NoWord_lkC e_NoBow_mr_NoWord | 2,h=>by cases h;exact L2.kit_self | j+3,h=>by simp at h,L2.kit_type (by decide) e_NoBow_vt⟩
 have XM_NoBow:PySem.W.exmOne K (.ref c_NoBow) (.ref c_RingError)=some true:=L2.exm_own x_lkR e_NoBow_cr x_rb
 have XS_NoBow:PySem.W.exmOne K (.ref c_NoBow) (.ref c_NoBow)=some true:=L2.exm_own e_NoBow_lkC e_NoBow_cs e_NoBow_cb
 have XN_NoBow_NoWord:PySem.W.exmOne K (.ref c_NoBow) (.ref c_NoWord)=some false:=L2.exm_own e_NoWord_lkC e_NoBow_mr_NoWord e_NoWord_cb
 have XN_NoBow_Crossed:PySem.W.exmOne K (.ref c_NoBow) (.ref c_Crossed)=some false:=L2.exm_own e_Crossed_lkC e_NoBow_mr_Crossed e_Crossed_cb
 have IF_Crossed:=fun (base:Heap) (KB:K.In base) (GB:base.Ns mainGlobals mg)=>L2.exc_factsI (f:="bows") KB GB y_Crossed e_Crossed_lkC x_lkR (L2.nsOk_of e_Crossed_lkN e_Crossed_nC) e_Crossed_iC x_eR (L2.nsOk_of x_lkM x_nR) x_r1 x_r2 x_r3 x_r4 F.attrBase_ValueError e_Crossed_ga e_Crossed_gt e_Crossed_sa e_Crossed_no (by simp) F.store_ValueError.passes
 have IA_Crossed:L2.ExcA K c_Crossed "bows":=(IF_Crossed h X G).2.1
 have FI_Crossed:=fun_mk (st:=s_ini_Crossed) e_Crossed_fl e_Crossed_fc e_Crossed_fk
 have XK_Crossed:L2.ExcKD K c_Crossed:=L2.excKD_of (cR:=.type "type") (cdR:=cdR_x) (dR:=dR_x) (slR:=slR_x) (NR:=NR) e_Crossed_lkC IA_Crossed e_Crossed_gc x_sp x_tk e_Crossed_mr
 have XJ_Crossed:L2.JstD K c_Crossed [c_Crossed,c_NoWord,c_NoBow] 0:=⟨fun j d h=>match j,h with | 0,h=>by cases h;exact L2.kit_self | 1,h=>by cases h;exact L2.kit_other e_Crossed_ne_NoWord e_NoWord_lkC e_Crossed_mr_NoWord | 2,h=>by cases h;exact L2.kit_other e_Crossed_ne_NoBow e_NoBow_lkC e_Crossed_mr_NoBow | j+3,h=>by simp at h,L2.kit_type (by decide) e_Crossed_vt⟩
 have XM_Crossed:PySem.W.exmOne K (.ref c_Crossed) (.ref c_RingError)=some true:=L2.exm_own x_lkR e_Crossed_cr x_rb
 have XS_Crossed:PySem.W.exmOne K (.ref c_Crossed) (.ref c_Crossed)=some true:=L2.exm_own e_Crossed_lkC e_Crossed_cs e_Crossed_cb
 have XN_Crossed_NoWord:PySem.W.exmOne K (.ref c_Crossed) (.ref c_NoWord)=some false:=L2.exm_own e_NoWord_lkC e_Crossed_mr_NoWord e_NoWord_cb
 have XN_Crossed_NoBow:PySem.W.exmOne K (.ref c_Crossed) (.ref c_NoBow)=some false:=L2.exm_own e_NoBow_lkC e_Crossed_mr_NoBow e_NoBow_cb
 have UK:L2.UpK K c_RingError "ValueError.__init__":=⟨x_rd,x_sg,x_fi,L2.handed_ve⟩
 have E_crossing:Fn K mg "crossing" s_crossing ["bows"]:=fn_mk X G a_crossing fun _ _ _ _ _ _=>L2.us1 fun _=>rfl
 have E_lies_within:Fn K mg "lies_within" s_lies_within ["inner","outer"]:=fn_mk X G a_lies_within fun _ _ _ _ _ _=>L2.us2 fun _ _=>rfl
 have E_is_whole:Fn K mg "is_whole" s_is_whole ["thing"]:=fn_mk X G a_is_whole fun _ _ _ _ _ _=>L2.us1 fun _=>rfl
 have E_is_below:Fn K mg "is_below" s_is_below ["thing","bound"]:=fn_mk X G a_is_below fun _ _ _ _ _ _=>L2.us2 fun _ _=>rfl
 have E_is_word:Fn K mg "is_word" s_is_word ["thing"]:=fn_mk X G a_is_word fun _ _ _ _ _ _=>L2.us1 fun _=>rfl
 have E_pairs:Fn K mg "pairs" s_pairs ["word"]:=fn_mk X G a_pairs fun _ _ _ _ _ _=>L2.us1 fun _=>rfl
 have E_is_bow:Fn K mg "is_bow" s_is_bow ["thing"]:=fn_mk X G a_is_bow fun _ _ _ _ _ _=>L2.us1 fun _=>rfl
 have E_fills_a_word:Fn K mg "fills_a_word" s_fills_a_word ["thing"]:=fn_mk X G a_fills_a_word fun _ _ _ _ _ _=>L2.us1 fun _=>rfl
 have E_word_of:Fn K mg "word_of" s_word_of ["bows"]:=fn_mk X G a_word_of fun _ _ _ _ _ _=>L2.us1 fun _=>rfl
 have E_turn_of:Fn K mg "turn_of" s_turn_of ["one","two"]:=fn_mk X G a_turn_of fun _ _ _ _ _ _=>L2.us2 fun _ _=>rfl
 have E_turned:Fn K mg "turned" s_turned ["word","i","j"]:=fn_mk X G a_turned fun _ _ _ _ _ _=>L2.us3 fun _ _ _=>rfl
 have E_vet_words:Fn K mg "vet_words" s_vet_words ["left","right"]:=fn_mk X G a_vet_words fun _ _ _ _ _ _=>L2.us2 fun _ _=>rfl
 have E_partners:Fn K mg "partners" s_partners ["word"]:=fn_mk X G a_partners fun _ _ _ _ _ _=>L2.us1 fun _=>rfl
 have E_round_from:Fn K mg "round_from" s_round_from ["end","lefts","rights"]:=fn_mk X G a_round_from fun _ _ _ _ _ _=>L2.us3 fun _ _ _=>rfl
 have E_rounds:Fn K mg "rounds" s_rounds ["left","right"]:=fn_mk X G a_rounds fun _ _ _ _ _ _=>L2.us2 fun _ _=>rfl
 have E_closings:Fn K mg "closings" s_closings ["left","right"]:=fn_mk X G a_closings fun _ _ _ _ _ _=>L2.us2 fun _ _=>rfl
 have E_cell_at:Fn K mg "_law_cell_at" s_cell_at ["_law_script","_law_k"]:=fn_mk X G a_cell_at fun _ _ _ _ _ _=>L2.us2 fun _ _=>rfl
 have E_digits:Fn K mg "_law_digits" s_digits ["_law_cell","_law_many_here"]:=fn_mk X G a_digits fun _ _ _ _ _ _=>L2.us2 fun _ _=>rfl
 have E_word:Fn K mg "_law_word" s_word ["_law_cell","_law_ends"]:=fn_mk X G a_word fun _ _ _ _ _ _=>L2.us2 fun _ _=>rfl
 have E_turned_l:Fn K mg "_law_turned" s_turned_l ["_law_word_here","_law_i","_law_j"]:=fn_mk X G a_turned_l fun _ _ _ _ _ _=>L2.us3 fun _ _ _=>rfl
 have E_many:Fn K mg "_law_many" s_many ["_law_words"]:=fn_mk X G a_many fun _ _ _ _ _ _=>L2.us1 fun _=>rfl
 have E_law:Fn K mg "law" s_law ["_law_script"]:=fn_mk X G a_law fun _ _ _ _ _ _=>L2.us1 fun _=>rfl
 have key:∀ base:Heap,K.In base->base.Ns mainGlobals mg->Def l.prog w K mg base 7 "law" s_law ["_law_script"] (spLaw K):=fun base KB GB=>by
  have O_NoWord:=XF_NoWord.2 base KB GB
  have O_NoBow:=XF_NoBow.2 base KB GB
  have O_Crossed:L2.DefI l.prog w K mg base 1 "Crossed" c_Crossed "bows" L2.okC:=⟨fi_Crossed,_,_,_,_,_,_,(IF_Crossed base KB GB).1,PySem.F.excBase_ValueError,ok_ini_Crossed (IF_Crossed base KB GB).1 PySem.F.excBase_ValueError UK C_RingError (IF_Crossed h X G).2.2 FI_Crossed,e_Crossed_ty,e_Crossed_kc,FI_Crossed.binds fun _ _ _ _ _ _=>L2.us2 fun _ _=>rfl,L2.okC_stay⟩
  have D_crossing:=ok_crossing (P:=l.prog) (w:=w) (base:=base) E_crossing
  have D_lies_within:=ok_lies_within (P:=l.prog) (w:=w) (base:=base) E_lies_within
  have D_is_whole:=ok_is_whole (P:=l.prog) (w:=w) (base:=base) B E_is_whole
  have D_is_below:=ok_is_below E_is_below D_is_whole
  have D_is_word:=ok_is_word (P:=l.prog) (w:=w) (base:=base) B E_is_word
  have D_pairs:=ok_pairs O_NoWord B E_pairs D_is_word
  have D_is_bow:=ok_is_bow B E_is_bow D_is_whole
  have D_fills_a_word:=ok_fills_a_word B E_fills_a_word D_is_bow
  have D_word_of:=ok_word_of O_NoWord B E_word_of D_fills_a_word D_crossing
  have D_turn_of:=ok_turn_of E_turn_of D_lies_within
  have D_turned:=ok_turned O_NoBow O_Crossed B E_turned D_pairs D_is_below D_turn_of D_crossing D_word_of
  have D_vet_words:=ok_vet_words O_NoWord B E_vet_words D_is_word
  have D_partners:=ok_partners E_partners D_pairs
  have D_round_from:=ok_round_from (P:=l.prog) (w:=w) (base:=base) E_round_from
  have D_rounds:=ok_rounds B E_rounds D_vet_words D_partners D_round_from
  have D_closings:=ok_closings B E_closings D_vet_words D_partners D_pairs
  have D_cell_at:=ok_cell_at (P:=l.prog) (w:=w) (base:=base) B E_cell_at
  have D_digits:=ok_digits (P:=l.prog) (w:=w) (base:=base) B E_digits
  have D_word:=ok_word B E_word D_digits
  have D_turned_l:=ok_turned_l C_Crossed XS_Crossed E_turned_l D_turned
  have D_many:=ok_many B E_many D_rounds D_closings
  exact ok_law B E_law D_cell_at D_word D_turned_l D_many
 obtain⟨f0,oc0,od0,an_law,sl0,kV_law,dc_law,pm_law,cd_law,ct_law,a_law,l_law,_,_⟩:=a_law
 have e:=hfa.symm.trans (PySem.W.mg_of X G a_law)
 cases e
 refine⟨PySem.W.fnOf "law" "law" (defArgs s_law) (defBody s_law) (defScope s_law) .none kV_law dc_law pm_law an_law cd_law ct_law,fun s v=>.of_eq rfl,fun base KB GB=>?_⟩
 obtain⟨f,fd,F,m,b,ok⟩:=(key base KB GB).ex
 rw [PySem.W.mg_of X G a_law] at m
 cases m
 obtain⟨_,_,_,_,_,_,_,_,_,rfl,lk,_⟩:=F.ex
 rw [l_law] at lk
 cases lk
 exact ok
theorem walk{l:PySem.W.OpenLaw}{q:Program}{loose:List Str}{XP:(Str->Option Value)->Heap->Prop}{YP:World->Heap->Prop}{d:DefRec}{K:Params->PySem.W.Frag}(hn:l.most=some 63)(hdf:d.params.defaults=[])
  (hY:∀ (w:World) (h:Heap),YP w h->(K w.params).In h)
  (F:∀ (w:World) (mg:Str->Option Value) (fa:Addr) (h:Heap),(K w.params).In h->h.Ns mainGlobals mg->mg d.name=some (.ref fa) →
   ∃ fd:FuncData,(∀ (s:Shared) (u:Value),BindsTo s fd ⟨[u],[]⟩ [("_law_script",u)])/\∀ base:Heap,(K w.params).In base->base.Ns mainGlobals mg->FnOk l.prog w (K w.params) mg base CX0 7 fa fd ["_law_script"] (spLaw (K w.params))) :
  PySem.W.WalkO q loose XP YP l.row.toRowW d [] (fun f vs=>PySem.call f vs):=
 L2.walk_of (n:=63) (k:=7) (x:="_law_script") (CX:=fun _=>CX0) (sp:=fun w=>spLaw (K w.params)) hn (by decide) hdf ⟨rfl,by decide,by decide,rfl⟩ hY F (fun _ _ a ns hl _ hS=>⟨a,ns,rfl,hS,hl,fun _=>rfl⟩) fun _ _ _ _ _ z=>z
end Rm
open PySem PySem.W PyProof.Rows
local macro_rules | `(tactic| walk_at "kf") => `(tactic| exact Rm.fnIn (by k_is) (by k_is) (by k_is) (by k_is))
set_option maxRecDepth 100000 in
set_option maxHeartbeats 0 in
theorem PySem.Challenge.cw_ringmaze_k24_whole_one_turn_one_round_holds : PySem.Challenge.rw_ringmaze_k24_whole_one_turn_one_round.Holds := by
 w_on; o_law; k_head; (case hw => w_witness2)
 k_fill
 refine Rm.walk (l := PySem.Challenge.rw_ringmaze_k24_whole_one_turn_one_round) rfl rfl (fun w h Y => PySem.W.kIn_of Y) ?F
 case F =>
  intro w mg fa h KX G hmg
  refine' Rm.all_mk KX G hmg ?a_crossing ?a_lies_within ?a_is_whole ?a_is_below ?a_is_word ?a_pairs ?a_is_bow ?a_fills_a_word ?a_word_of ?a_turn_of ?a_turned ?a_vet_words ?a_partners ?a_round_from ?a_rounds ?a_closings ?a_cell_at ?a_digits ?a_word ?a_turned_l ?a_many ?a_law ?y_MOST_SIGNS ?y_RingError ?y_Crossed ?y_NoWord ?y_NoBow ?x_lkR ?x_eR ?x_lkM ?x_nR ?x_r1 ?x_r2 ?x_r3 ?x_r4 ?x_sp ?x_tk ?x_rb ?x_rd ?x_sg ?x_fi ?e_NoWord_lkC ?e_NoWord_lkN ?e_NoWord_nC ?e_NoWord_iC ?e_NoWord_ga ?e_NoWord_gt ?e_NoWord_gc ?e_NoWord_mr ?e_NoWord_cr ?e_NoWord_vt ?e_NoWord_cs ?e_NoWord_cb ?e_NoWord_mr_Crossed ?e_NoWord_ne_Crossed ?e_NoWord_mr_NoBow ?e_NoWord_ne_NoBow ?e_NoBow_lkC ?e_NoBow_lkN ?e_NoBow_nC ?e_NoBow_iC ?e_NoBow_ga ?e_NoBow_gt ?e_NoBow_gc ?e_NoBow_mr ?e_NoBow_cr ?e_NoBow_vt ?e_NoBow_cs ?e_NoBow_cb ?e_NoBow_mr_Crossed ?e_NoBow_ne_Crossed ?e_NoBow_mr_NoWord ?e_NoBow_ne_NoWord ?e_Crossed_lkC ?e_Crossed_lkN ?e_Crossed_nC ?e_Crossed_iC ?e_Crossed_ga ?e_Crossed_gt ?e_Crossed_gc ?e_Crossed_mr ?e_Crossed_cr ?e_Crossed_vt ?e_Crossed_cs ?e_Crossed_cb ?e_Crossed_mr_NoWord ?e_Crossed_ne_NoWord ?e_Crossed_mr_NoBow ?e_Crossed_ne_NoBow ?e_Crossed_sa ?e_Crossed_no ?e_Crossed_fl ?e_Crossed_fc ?e_Crossed_fk ?e_Crossed_ty ?e_Crossed_kc ?z_len ?z_range ?z_int ?z_list ?z_tuple ?z_isinstance ?z_str ?z_bool ?z_sorted ?z_all ?z_enumerate ?z_max ?z_min ?z_ValueError
  (case a_crossing => walk_at "kf")
  (case a_lies_within => walk_at "kf")
  (case a_is_whole => walk_at "kf")
  (case a_is_below => walk_at "kf")
  (case a_is_word => walk_at "kf")
  (case a_pairs => walk_at "kf")
  (case a_is_bow => walk_at "kf")
  (case a_fills_a_word => walk_at "kf")
  (case a_word_of => walk_at "kf")
  (case a_turn_of => walk_at "kf")
  (case a_turned => walk_at "kf")
  (case a_vet_words => walk_at "kf")
  (case a_partners => walk_at "kf")
  (case a_round_from => walk_at "kf")
  (case a_rounds => walk_at "kf")
  (case a_closings => walk_at "kf")
  (case a_cell_at => walk_at "kf")
  (case a_digits => walk_at "kf")
  (case a_word => walk_at "kf")
  (case a_turned_l => walk_at "kf")
  (case a_many => walk_at "kf")
  (case a_law => walk_at "kf")
  (case y_MOST_SIGNS => k_is)
  (case y_RingError => k_is)
  (case y_Crossed => k_is)
  (case y_NoWord => k_is)
  (case y_NoBow => k_is)
  (case x_lkR => k_is)
  (case x_eR => first | rfl | k_is)
  (case x_lkM => k_is)
  (case x_nR => first | rfl | k_is)
  (case x_r1 => k_is)
  (case x_r2 => k_is)
  (case x_r3 => k_is)
  (case x_r4 => k_is)
  (case x_sp => k_is)
  (case x_tk => k_is)
  (case x_rb => k_is)
  (case x_rd => k_is)
  (case x_sg => k_is)
  (case x_fi => k_is)
  (case e_NoWord_lkC => k_is)
  (case e_NoWord_lkN => k_is)
  (case e_NoWord_nC => first | rfl | k_is)
  (case e_NoWord_iC => k_is)
  (case e_NoWord_ga => k_is)
  (case e_NoWord_gt => k_is)
  (case e_NoWord_gc => k_is)
  (case e_NoWord_mr => k_is)
  (case e_NoWord_cr => k_is)
  (case e_NoWord_vt => k_is)
  (case e_NoWord_cs => k_is)
  (case e_NoWord_cb => k_is)
  (case e_NoWord_mr_Crossed => k_is)
  (case e_NoWord_ne_Crossed => first | rfl | k_is)
  (case e_NoWord_mr_NoBow => k_is)
  (case e_NoWord_ne_NoBow => first | rfl | k_is)
  (case e_NoBow_lkC => k_is)
  (case e_NoBow_lkN => k_is)
  (case e_NoBow_nC => first | rfl | k_is)
  (case e_NoBow_iC => k_is)
  (case e_NoBow_ga => k_is)
  (case e_NoBow_gt => k_is)
  (case e_NoBow_gc => k_is)
  (case e_NoBow_mr => k_is)
  (case e_NoBow_cr => k_is)
  (case e_NoBow_vt => k_is)
  (case e_NoBow_cs => k_is)
  (case e_NoBow_cb => k_is)
  (case e_NoBow_mr_Crossed => k_is)
  (case e_NoBow_ne_Crossed => first | rfl | k_is)
  (case e_NoBow_mr_NoWord => k_is)
  (case e_NoBow_ne_NoWord => first | rfl | k_is)
  (case e_Crossed_lkC => k_is)
  (case e_Crossed_lkN => k_is)
  (case e_Crossed_nC => first | rfl | k_is)
  (case e_Crossed_iC => k_is)
  (case e_Crossed_ga => k_is)
  (case e_Crossed_gt => k_is)
  (case e_Crossed_gc => k_is)
  (case e_Crossed_mr => k_is)
  (case e_Crossed_cr => k_is)
  (case e_Crossed_vt => k_is)
  (case e_Crossed_cs => k_is)
  (case e_Crossed_cb => k_is)
  (case e_Crossed_mr_NoWord => k_is)
  (case e_Crossed_ne_NoWord => first | rfl | k_is)
  (case e_Crossed_mr_NoBow => k_is)
  (case e_Crossed_ne_NoBow => first | rfl | k_is)
  (case e_Crossed_sa => k_is)
  (case e_Crossed_no => k_is)
  (case e_Crossed_fl => k_is)
  (case e_Crossed_fc => k_is)
  (case e_Crossed_fk => k_is)
  (case e_Crossed_ty => k_is)
  (case e_Crossed_kc => k_is)
  (case z_len => k_is)
  (case z_range => k_is)
  (case z_int => k_is)
  (case z_list => k_is)
  (case z_tuple => k_is)
  (case z_isinstance => k_is)
  (case z_str => k_is)
  (case z_bool => k_is)
  (case z_sorted => k_is)
  (case z_all => k_is)
  (case z_enumerate => k_is)
  (case z_max => k_is)
  (case z_min => k_is)
  (case z_ValueError => k_is)
#print axioms PySem.Challenge.cw_ringmaze_k24_whole_one_turn_one_round_holds
