import PyProof.Rows.All
import Wide.All
import OpenK.AllK
import Wide.FinOn
import Lean
import PyProof.EqAt
import PyProof.EqKinds
import PyProof.TupleCall
import KE.KSortTup
import PyProof.NeKinds
import PyProof.DictRoadsH
import KE.KIntText
import KE.KRevIter
import PyProof.Rows.Range3
import KE.KDictList
import KE.KDictLaws
import KE.LcSums
import PyProof.ZipIter
import KE.KListMore
import KE.KMinKey
import PyProof.Rows.IntBool
import KE.KStrOpen
import PyProof.StrLawsTight
import PyProof.Rows.SortKeyStr
import PyProof.Rows.SortWalk
import PyProof.SetKind
import PyProof.Rows.SetFrom
import PyProof.SetRoads
import PyProof.DictWalks
import PyProof.CollectWalk
import PyProof.ListRange
import PyProof.Rows.SortShell
import PyProof.WalksEnum
import PyProof.EnumMake
import PyProof.Rows.EnumRows
import PyProof.DictCompW
import PyProof.Rows.TupMore
import PySem.Challenge.RW_smallword_k05_sums_and_wishes_told
set_option Elab.async false
set_option linter.all false
set_option maxRecDepth 100000
set_option maxHeartbeats 8000000
namespace Zz
def yj:=@List.getElem?_eq_getElem
def yk:=@List.mem_cons
def yl:=@Nat.le_refl
def ym:=@List.mem_cons_of_mem
def yn:=@List.mem_cons_self
def yo:=@List.length_map
def yp:=@List.size_toArray
def yq:=@List.not_mem_nil
def yt:=@List.length_append
def yv:=@List.mem_singleton
def yw:=@List.mem_of_getElem?
def yx:=@List.mem_append
def yy:=@Array.length_toList
def yA:=@Bool.false_eq_true
def yB:=@Nat.lt_of_lt_of_le
def yC:=@List.length_cons
def yD:=@List.map_cons
def yE:=@Nat.ne_of_lt
def yF:=@List.getElem?_eq_some_iff
def yG:=@Nat.lt_of_le_of_lt
def yH:=@Bool.and_eq_true
def yI:=@Bool.false_ne_true
def yJ:=@List.length_singleton
def yK:=@Array.getElem?_toList
def yL:=@List.getElem?_map
def yM:=@Array.getElem?_eq_getElem
def yN:=@List.length_take
def yO:=@Nat.zero_le
def yP:=@Option.some.inj
def yQ:=@List.getElem?_eq_none
def yR:=@Option.map_eq_some_iff
def yS:=@List.getD_eq_getElem?_getD
def yT:=@Int.toNat_natCast
def yU:=@Nat.le_trans
def yV:=@List.mem_map
def yW:=@Nat.add_le_add_left
def yX:=@List.mem_append_right
def yY:=@List.mem_range
def yZ:=@List.length_drop
def z5:=@List.all_eq_true
def z6:=@List.lookup_cons
def z7:=@List.take_add_one
def z9:=@List.mem_filter
def za:=@List.forall_mem_cons
def zc:=@Bool.eq_iff_iff
def zd:=@List.pairwise_iff_getElem
def ze:=@List.length_range
def zf:=@List.cons.injEq
def zg:=@List.take_of_length_le
def zh:=@List.map_append
def zj:=@List.zip_cons_cons
def zk:=@List.getElem_mem
def zl:=@Int.gcd_pos_of_ne_zero_right
def zm:=@List.length_nil
def zo:=@List.filterMap_cons
def zp:=@List.nodup_cons
def zq:=@List.toList_toArray
def zt:=@List.take_length
def zu:=@List.pairwise_cons
def zv:=@Int.emod_lt_of_pos
def zw:=@Array.getD_eq_getD_getElem?
def zx:=@List.ext_getElem?
end Zz
open Zz
namespace L2
open PySem PySem.Spec PyProof.Rows
abbrev Key:=Sum Int Str
noncomputable def dX:Key→Value→Bool
 | .inl k,v=>Value.isInt k v
 | .inr x,v=>Value.isStrOf x v
noncomputable def keyH (w:World):Key→Int
 | .inl k=>hashInt k
 | .inr x=>hashStr w x
theorem aH:∀ {k:Key} {v:Value},dX k v=true→(∃i t,k=Sum.inl i∧v=Value.int i t)∨(∃x t,k=Sum.inr x∧v=Value.str x t)
 | .inl i,v,h=>by
  obtain ⟨t,e⟩:=Value.isInt_shape (k:=i) (v:=v) h
  exact .inl ⟨i,t,rfl,e⟩
 | .inr x,v,h=>by
  obtain ⟨t,e⟩:=Value.isStrOf_shape (x:=x) (v:=v) h
  exact .inr ⟨x,t,rfl,e⟩
theorem iO (i:Int) (t:Tok):dX (.inl i) (.int i t)=true:=by simp [dX,Value.isInt]
theorem iN (x:Str) (t:Tok):dX (.inr x) (.str x t)=true:=by simp [dX,Value.isStrOf]
theorem wI (a b:Int):decide ((Sum.inl a:Key)=Sum.inl b)=(a==b):=by
 by_cases e:a=b
 · subst e;simp
 · have h:¬(Sum.inl a:Key)=Sum.inl b:=fun q=>e (Sum.inl.inj q)
   rw [decide_eq_false h]
   exact (beq_eq_false_iff_ne.mpr e).symm
theorem wF (a b:Str):decide ((Sum.inr a:Key)=Sum.inr b)=decide (a=b):=by
 by_cases e:a=b
 · subst e;simp
 · have h:¬(Sum.inr a:Key)=Sum.inr b:=fun q=>e (Sum.inr.inj q)
   rw [decide_eq_false h,decide_eq_false e]
theorem wH (a:Int) (b:Str):decide ((Sum.inl a:Key)=Sum.inr b)=false:=decide_eq_false (fun q=>nomatch q)
theorem wG (a:Str) (b:Int):decide ((Sum.inr a:Key)=Sum.inl b)=false:=decide_eq_false (fun q=>nomatch q)
noncomputable def b8 (prog:Program) (w:World):PySem.KeyKind prog w Key where
 is:=dX
 hash:=keyH w
 inj:=fun v a b ha hb=>by
  rcases aH ha with ⟨i,t,rfl,rfl⟩|⟨x,t,rfl,rfl⟩
  · rcases aH hb with ⟨j,u,rfl,e⟩|⟨y,u,rfl,e⟩
    · injection e with e1 _;rw [e1]
    · exact nomatch e
  · rcases aH hb with ⟨j,u,rfl,e⟩|⟨y,u,rfl,e⟩
    · exact nomatch e
    · injection e with e1 _;rw [e1]
 byValue:=fun k v h=>by
  rcases aH h with ⟨i,t,rfl,rfl⟩|⟨x,t,rfl,rfl⟩<;>rfl
 pyHash:=fun hv h=>by
  rcases aH hv with ⟨i,t,rfl,rfl⟩|⟨x,t,rfl,rfl⟩
  · exact wpAny_pyHash_int h
  · exact wpAny_pyHash_str h
 eqBool:=fun hu hv h=>by
  rcases aH hu with ⟨i,t,rfl,rfl⟩|⟨x,t,rfl,rfl⟩
  · rcases aH hv with ⟨j,u,rfl,rfl⟩|⟨y,u,rfl,rfl⟩
    · rw [wI] at h;exact wpAny_eqBool_int h
    · rw [wH] at h;exact SeqAt.EqAt.int_str i t y u _ _ _ _ h
  · rcases aH hv with ⟨j,u,rfl,rfl⟩|⟨y,u,rfl,rfl⟩
    · rw [wG] at h;exact SeqAt.EqAt.str_int x t j u _ _ _ _ h
    · rw [wF] at h;exact wpAny_eqBool_str h
 «strs»:=fun k x t v h=>by
  rcases aH h with ⟨i,u,rfl,e⟩|⟨y,u,rfl,e⟩
  · exact nomatch e
  · injection e with e1 _
    subst e1
    cases v<;>rfl
theorem kq (prog:Program) (w:World) (i:Int) (t:Tok):(b8 prog w).is (.inl i) (.int i t)=true:=iO i t
theorem ko (prog:Program) (w:World) (x:Str) (t:Tok):(b8 prog w).is (.inr x) (.str x t)=true:=iN x t
open PySem PySem.Spec PyProof.Rows
inductive V where
 |non|bl (b:Bool)|int (i:Int)|str (x:Str)|byt (b:Array UInt8)|flt (b:UInt64)|ref (a:Addr)|ty (n:String)
 deriving DecidableEq
def RelV:V→Value→Prop
 | .non,u=>u=Value.none
 | .bl b,u=>u=Value.bool b
 | .int i,u=>∃t,u=Value.int i t
 | .str x,u=>∃t,u=Value.str x t
 | .byt b,u=>∃t,u=Value.bytes b t
 | .flt b,u=>∃t,u=Value.float b t
 | .ref a,u=>u=Value.ref a
 | .ty n,u=>u=Value.type n
abbrev Vals:List V→List Value→Prop:=Paired RelV
theorem Vals.length {xs:List V} {us:List Value} (r:Vals xs us):xs.length=us.length:=Paired.length r
theorem Vals.get:∀ {xs:List V} {us:List Value} {i:Nat} {x:V},Vals xs us→xs[i]?=some x→∃u,us[i]?=some u∧RelV x u
 |_,_,_,_, .nil,e=>by simp at e
 |_,_,0,_, .cons r _,e=>by simp at e;subst e;exact ⟨_,rfl,r⟩
 |_,_,i+1,x, .cons _ t,e=>by
  obtain ⟨u,h1,h2⟩:=Vals.get (i:=i) (x:=x) t (by simpa using e)
  exact ⟨u,by simpa using h1,h2⟩
theorem Vals.set {x:V} {u:Value} (r:RelV x u):∀ {xs:List V} {us:List Value} (i:Nat),Vals xs us→Vals (xs.set i x) (us.set i u)
 |_,_,_, .nil=> .nil
 |_,_,0, .cons _ t=> .cons r t
 |_,_,i+1, .cons q t=> .cons q (Vals.set r i t)
theorem Vals.append:∀ {xs ys:List V} {us ws:List Value},Vals xs us→Vals ys ws→Vals (xs++ys) (us++ws)
 |_,_,_,_, .nil,s=>s
 |_,_,_,_, .cons r t,s=> .cons r (Vals.append t s)
theorem Vals.take:∀ {xs:List V} {us:List Value} (n:Nat),Vals xs us→Vals (xs.take n) (us.take n)
 |_,_,0,_=> .nil
 |_,_,_+1, .nil=> .nil
 |_,_,n+1, .cons r t=> .cons r (Vals.take n t)
theorem Vals.drop:∀ {xs:List V} {us:List Value} (n:Nat),Vals xs us→Vals (xs.drop n) (us.drop n)
 |_,_,0,r=>r
 |_,_,_+1, .nil=> .nil
 |_,_,n+1, .cons _ t=>Vals.drop n t
def RelO:Option V→Option Value→Prop
 |some v,some u=>RelV v u
 |none,none=>True
 |_,_=>False
def KV {κ:Type}:List (κ×V)→List (κ×Value)→Prop:=Paired fun (p:κ×V) (q:κ×Value)=>p.1=q.1∧RelV p.2 q.2
def kV:Key→V
 | .inl i=> .int i
 | .inr x=> .str x
inductive HO where
 |lst (xs:List V)
 |tup (xs:List V)
 |dK (kvs:List (Key×V))|dT (kvs:List (List Key×V))
 |set (S:Int→Bool) (n:Nat)
 |ins (C dx:Addr) (fs:List (Str×V))
 |own (x:Addr)
 |xd (fs:List (Str×V))
 |met (f x:Addr)
 |rng (lo hi:Int)
 |frz (o:Obj) (u:HO)
 |tbl (ps:Array Value)
 |ext (φ:Heap→Prop)
abbrev Hp:=Addr→Option HO
noncomputable def upd (H:Hp) (a:Addr) (o:HO):Hp:=fun b=>if b=a then some o else H b
theorem ad {H:Hp} {a:Addr} {o:HO}:upd H a o a=some o:=by unfold upd;rw [if_pos rfl]
theorem aF {H:Hp} {a b:Addr} {o:HO} (h:b≠a):upd H a o b=H b:=by unfold upd;rw [if_neg h]
theorem aK {H:Hp} {a b:Addr} {o:HO} (h:H a=some o) (h':H b=none):a≠b:=by
 intro e;subst e;rw [h] at h';cases h'
section
variable (P:Program) (w:World)
def ObjOk (H:Hp) (h:Heap) (a:Addr):HO→Prop
 | .lst xs=>xs.length≤sizeLine∧∃(its:List Value) (n:Nat),Vals xs its∧h.get? a=some {cls:= .type "list",data:= .seq its.toArray n}
 | .tup xs=>xs.length≤sizeLine∧∃its:List Value,Vals xs its∧IsTup h a its.toArray
 | .dK kvs=>kvs.length≤sizeLine∧(a==sysModules)=false∧∃vs,KV kvs vs∧h.DictOf (b8 P w) a vs
 | .dT kvs=>kvs.length≤sizeLine∧(a==sysModules)=false∧∃xs:List (List Key×Addr×Value),
  Paired (fun (p:List Key×V) (q:List Key×Addr×Value)=>p.1=q.1∧H q.2.1=some (.tup (p.1.map kV))∧RelV p.2 q.2.2) kvs xs∧
  ∃o es ep,h.get? a=some o∧o.ExactDict∧o.data= .dict es ep∧es.toList=xs.map (entryOfKey (tupleKind (b8 P w)))∧(xs.map (·.1)).Nodup
 | .set S n=>h.SetOf (intKind P w) a S n
 | .ins C dx fs=>H dx=some (.own a)∧fs.length≤1000∧dx≠a∧h.get? a=some (PySem.W.instObj C dx)∧
  ∃mA,h.Ns1 dx mA∧(∀f,RelO (fs.lookup f) (mA f))∧PySem.Within mA (fs.map (·.1))
 | .own _=>∃o,h.get? a=some o
 | .xd fs=>∃mA,h.Ns1 a mA∧∀f,RelO (fs.lookup f) (mA f)
 | .rng lo hi=>∃t u v,h.get? a=some {cls:= .type "range",data:= .fields #[.int lo t, .int hi u, .int 1 v]}
 | .frz o u=>h.get? a=some o∧ObjOk H h a u
 | .tbl ps=>h.get? a=some {cls:= .none,data:= .fields ps}
 | .met f x=>h.get? a=some (PySem.W.methodObj (.ref f) (.ref x))
 | .ext φ=>φ h∧(∃o,h.get? a=some o)∧∀h1 h2:Heap,φ h1→(∀o,h1.get? a=some o→h2.get? a=some o)→φ h2
def HOk (H:Hp) (h:Heap):Prop:=∀a o,H a=some o→ObjOk P w H h a o
end
section
variable {P:Program} {w:World} {H H':Hp} {h h':Heap} {a:Addr} {o:HO}
theorem ObjOk.lt (x:ObjOk P w H h a o):a < h.objs.size:=by
 cases o with
 |lst xs=>obtain ⟨_,_,_,_,e⟩:=x;exact Heap.lt_size e
 |tup xs=>obtain ⟨_,_,_,p⟩:=x;exact p.lt
 |dK kvs=>obtain ⟨_,_,_,_,o,_,_,e,_⟩:=x;exact Heap.lt_size e
 |dT kvs=>obtain ⟨_,_,_,_,o,_,_,e,_⟩:=x;exact Heap.lt_size e
 |set S n=>obtain ⟨o,_,_,_,e,_⟩:=x;exact Heap.lt_size e
 |ins C dx fs=>obtain ⟨_,_,_,e,_⟩:=x;exact Heap.lt_size e
 |own y=>obtain ⟨_,e⟩:=x;exact Heap.lt_size e
 |xd fs=>obtain ⟨_,⟨_,_,_,e,_⟩,_⟩:=x;exact Heap.lt_size e
 |rng lo hi=>obtain ⟨_,_,_,e⟩:=x;exact Heap.lt_size e
 |frz ob u=>obtain ⟨e,_⟩:=x;exact Heap.lt_size e
 |tbl ps=>exact Heap.lt_size (show h.get? a=some _ from x)
 |met f y=>exact Heap.lt_size (show h.get? a=some _ from x)
 |ext φ=>obtain ⟨_,⟨_,e⟩,_⟩:=x;exact Heap.lt_size e
theorem Paired.mapP {α β:Type} {F G:α→β→Prop}:∀ {l₁:List α} {l₂:List β},Paired F l₁ l₂→(∀a b,F a b→G a b)→Paired G l₁ l₂
 |_,_, .nil,_=> .nil
 |_,_, .cons r t,f=> .cons (f _ _ r) (Paired.mapP t f)
theorem Paired.imp' {α β:Type} {F G:α→β→Prop} (f:∀a b,F a b→G a b) {l₁:List α} {l₂:List β} (r:Paired F l₁ l₂):Paired G l₁ l₂:=Paired.mapP r f
theorem ObjOk.stay (x:ObjOk P w H h a o) (k:∀b u,(b=a∨H b=some (.own a))→h.get? b=some u→h'.get? b=some u)
 (ho:∀b,H b=some (.own a)→H' b=some (.own a)) (ht:∀b xs,H b=some (.tup xs)→H' b=some (.tup xs)):ObjOk P w H' h' a o:=by
 induction o with
 |lst xs=>obtain ⟨z,its,n,r,e⟩:=x;exact ⟨z,its,n,r,k _ _ (.inl rfl) e⟩
 |tup xs=>obtain ⟨z,its,r,ob,e,c⟩:=x;exact ⟨z,its,r,ob,k _ _ (.inl rfl) e,c⟩
 |dK kvs=>obtain ⟨z,y,vs,r,ob,es,ep,e,c⟩:=x;exact ⟨z,y,vs,r,ob,es,ep,k _ _ (.inl rfl) e,c⟩
 |dT kvs=>
  obtain ⟨z,y,xs,r,ob,es,ep,e,c⟩:=x
  exact ⟨z,y,xs,Paired.mapP r fun p q z=>⟨z.1,ht _ _ z.2.1,z.2.2⟩,ob,es,ep,k _ _ (.inl rfl) e,c⟩
 |set S n=>obtain ⟨ob,es,ep,t,e,c⟩:=x;exact ⟨ob,es,ep,t,k _ _ (.inl rfl) e,c⟩
 |ins C dx fs=>
  obtain ⟨d,z,ne,e,mA,⟨od,es,ep,e2,c⟩,r⟩:=x
  exact ⟨ho _ d,z,ne,k _ _ (.inl rfl) e,mA,⟨od,es,ep,k _ _ (.inr d) e2,c⟩,r⟩
 |own y=>obtain ⟨ob,e⟩:=x;exact ⟨ob,k _ _ (.inl rfl) e⟩
 |xd fs=>obtain ⟨mA,⟨od,es,ep,e,c⟩,r⟩:=x;exact ⟨mA,⟨od,es,ep,k _ _ (.inl rfl) e,c⟩,r⟩
 |rng lo hi=>obtain ⟨t,u,v,e⟩:=x;exact ⟨t,u,v,k _ _ (.inl rfl) e⟩
 |frz ob u ih=>obtain ⟨e,q⟩:=x;exact ⟨k _ _ (.inl rfl) e,ih q⟩
 |tbl ps=>
  have e:h.get? a=some {cls:= .none,data:= .fields ps}:=x
  show h'.get? a=some {cls:= .none,data:= .fields ps}
  exact k a _ (.inl rfl) e
 |met f y=>
  have e:h.get? a=some (PySem.W.methodObj (.ref f) (.ref y)):=x
  show h'.get? a=some (PySem.W.methodObj (.ref f) (.ref y))
  exact k a _ (.inl rfl) e
 |ext φ=>obtain ⟨p,⟨o,e⟩,st⟩:=x;exact ⟨st _ _ p fun o q=>k _ _ (.inl rfl) q,⟨o,k _ _ (.inl rfl) e⟩,st⟩
theorem HOk.lt (x:HOk P w H h) (e:H a=some o):a < h.objs.size:=(x a o e).lt
theorem HOk.fresh (x:HOk P w H h) (e:h.objs.size≤a):H a=none:=by
 cases q:H a with
 |none=>rfl
 |some u=>exact absurd (yB (x.lt q) e) (Nat.lt_irrefl _)
theorem HOk.kept (x:HOk P w H h) (k:∀b u,h.get? b=some u→h'.get? b=some u):HOk P w H h':=fun a o e=>
 (x a o e).stay (fun b u _ q=>k b u q) (fun _ q=>q) fun _ _ q=>q
theorem HOk.laid (x:HOk P w H h) (k:∀b u,h.get? b=some u→h'.get? b=some u) (hp:h.objs.size≤a) (new:ObjOk P w (upd H a o) h' a o):HOk P w (upd H a o) h':=fun b u e=>by
 have hn:=x.fresh hp
 by_cases hb:b=a
 · subst hb;rw [ad] at e;cases e;exact new
 · rw [aF hb] at e
   exact (x b u e).stay (fun c v _ q=>k c v q) (fun c q=>by rw [aF (aK q hn)];exact q) fun c xs q=>by rw [aF (aK q hn)];exact q
end
def Rd (H:Hp) (a:Addr) (u:HO):Prop:=H a=some u∨∃o,H a=some (.frz o u)
theorem Rd.ok {P:Program} {w:World} {H:Hp} {h:Heap} {a:Addr} {u:HO} (r:Rd H a u) (x:HOk P w H h):ObjOk P w H h a u:=by
 rcases r with r|⟨o,r⟩
 · exact x a u r
 · obtain ⟨_,q⟩:=x a _ r
   exact q
def Mut:Option HO→Prop
 |some (.lst _)=>True
 |some (.dK _)=>True
 |some (.dT _)=>True
 |some (.set _ _)=>True
 |some (.ins _ _ _)=>True
 |some (.ext _)=>True
 |_=>False
section
variable {P:Program} {w:World} {H:Hp} {h h':Heap} {x e:Addr} {o':HO}
theorem HOk.write (ok:HOk P w H h) (mu:Mut (H x)) (he:e=x∨H e=some (.own x)) (k:∀b u,b≠e→h.get? b=some u→h'.get? b=some u) (heo:∃u,h'.get? e=some u)
 (new:ObjOk P w (upd H x o') h' x o'):HOk P w (upd H x o') h':=fun b u q=>by
 have nown:∀c y,H c=some (.own y)→c≠x:=fun c y r z=>by subst z;rw [r] at mu;exact mu
 have ntup:∀c xs,H c=some (.tup xs)→c≠x:=fun c xs r z=>by subst z;rw [r] at mu;exact mu
 by_cases hb:b=x
 · subst hb;rw [ad] at q;cases q;exact new
 · rw [aF hb] at q
   by_cases hbe:b=e
   · have q':H b=some (.own x):=by
      rcases he with z|z
      · exact absurd (hbe.trans z) hb
      · rw [hbe];exact z
     rw [q] at q';cases q'
     obtain ⟨v,hv⟩:=heo
     exact ⟨v,by rw [hbe];exact hv⟩
   · refine (ok b u q).stay (fun c v hc r=>k c v ?_ r) (fun c r=>by rw [aF (nown c b r)];exact r) fun c xs r=>by rw [aF (ntup c xs r)];exact r
     rcases hc with rfl|hc
     · exact hbe
     · rintro rfl
       rcases he with z|z
       · exact nown c b hc z
       · rw [hc] at z;cases z;exact hb rfl
end
def Idl (x:Option HO):Prop:=x=none∨∃xs,x=some (.tup xs)
theorem Idl.no {x:Option HO} (h:x=none):Idl x:= .inl h
structure Un (fs ex:List Addr) (H H':Hp) (h h':Heap):Prop where
 keep:∀b o,h.get? b=some o→Idl (H b)→b∉fs→b∉ex→h'.get? b=some o
 slot:∀b o,h.get? b=some o→H b=none→b∈fs→b∉ex→∃sl,h'.get? b=some {o with slots:=sl}
 free:∀b o,h.get? b=some o→H b=none→b∉ex→H' b=none
 there:∀b o,h.get? b=some o→b∉ex→∃o',h'.get? b=some o'
 tups:∀b xs,H b=some (.tup xs)→H' b=some (.tup xs)
 frzs:∀b o u,H b=some (.frz o u)→H' b=some (.frz o u)
 tbls:∀b ps,H b=some (.tbl ps)→∃more,H' b=some (.tbl (ps++more))
section
variable {fs fs' ex ex':List Addr} {H H1 H2:Hp} {h h1 h2 h':Heap} {a x e:Addr} {o:HO}
theorem Un.any (u:Un fs ex H H1 h h1) {b:Addr} {ob:Obj} (q:h.get? b=some ob) (n:H b=none) (hx:b∉ex):∃sl,h1.get? b=some {ob with slots:=sl}:=by
 by_cases hb:b∈fs
 · exact u.slot b ob q n hb hx
 · exact ⟨ob.slots,u.keep b ob q (.inl n) hb hx⟩
theorem Un.idl (u:Un fs ex H H1 h h1) {b:Addr} {ob:Obj} (q:h.get? b=some ob) (n:Idl (H b)) (hx:b∉ex):Idl (H1 b):=by
 rcases n with n|⟨xs,n⟩
 · exact .inl (u.free b ob q n hx)
 · exact .inr ⟨xs,u.tups b xs n⟩
theorem Un.trans (a:Un fs ex H H1 h h1) (b:Un fs ex H1 H2 h1 h2):Un fs ex H H2 h h2 where
 keep:=fun c ob q n hc hx=>b.keep c ob (a.keep c ob q n hc hx) (a.idl q n hx) hc hx
 slot:=fun c ob q n hc hx=>by
  obtain ⟨sl,e1⟩:=a.slot c ob q n hc hx
  obtain ⟨sl',e2⟩:=b.slot c _ e1 (a.free c ob q n hx) hc hx
  exact ⟨sl',e2⟩
 free:=fun c ob q n hx=>by
  obtain ⟨o',e1⟩:=a.there c ob q hx
  exact b.free c o' e1 (a.free c ob q n hx) hx
 there:=fun c ob q hx=>by
  obtain ⟨o',e1⟩:=a.there c ob q hx
  exact b.there c o' e1 hx
 tups:=fun c xs q=>b.tups c xs (a.tups c xs q)
 frzs:=fun c ob xs q=>b.frzs c ob xs (a.frzs c ob xs q)
 tbls:=fun c ps q=>by
  obtain ⟨m1,e1⟩:=a.tbls c ps q
  obtain ⟨m2,e2⟩:=b.tbls c _ e1
  exact ⟨m1++m2,by rw [e2,Array.append_assoc]⟩
theorem Un.kept (k:∀b u,h.get? b=some u→h'.get? b=some u):Un fs ex H H h h':=
 ⟨fun b ob q _ _ _=>k b ob q,fun b ob q _ _ _=>⟨ob.slots,k b ob q⟩,fun _ _ _ n _=>n,fun b ob q _=>⟨ob,k b ob q⟩,fun _ _ q=>q,fun _ _ _ q=>q,fun _ ps q=>⟨#[],by rw [q];simp⟩⟩
theorem Un.refl:Un fs ex H H h h:=Un.kept fun _ _ q=>q
theorem Un.laid (k:∀b u,h.get? b=some u→h'.get? b=some u) (hp:h.objs.size≤a) (hn:H a=none):Un fs ex H (upd H a o) h h' where
 keep:=fun b u q _ _ _=>k b u q
 slot:=fun b u q _ _ _=>⟨u.slots,k b u q⟩
 free:=fun b u q n _=>by rw [aF (yE (yB (Heap.lt_size q) hp))];exact n
 there:=fun b u q _=>⟨u,k b u q⟩
 tups:=fun b xs q=>by rw [aF (aK q hn)];exact q
 frzs:=fun b u xs q=>by rw [aF (aK q hn)];exact q
 tbls:=fun b ps q=>⟨#[],by rw [aF (aK q hn),q];simp⟩
theorem Un.write (mu:Mut (H x)) (he:e=x∨H e=some (.own x)) (k:∀b u,b≠e→h.get? b=some u→h'.get? b=some u) (heo:∃u,h'.get? e=some u):Un fs ex H (upd H x o) h h':=by
 have hx:∀b,H b=none→b≠x:=fun b n z=>by subst z;rw [n] at mu;exact mu
 have hb:∀b,H b=none→b≠e:=fun b n z=>by
  subst z
  rcases he with r|r
  · exact hx b n r
  · rw [n] at r;cases r
 have hi:∀b,Idl (H b)→b≠e:=fun b n z=>by
  rcases n with n|⟨xs,n⟩
  · exact hb b n z
  · subst z
    rcases he with r|r
    · subst r
      rw [n] at mu
      exact mu
    · rw [n] at r;cases r
 have hm:∀b u,H b=some u→¬Mut (some u)→b≠x:=fun b u q nm z=>by subst z;rw [q] at mu;exact nm mu
 refine ⟨fun b u q n _ _=>k b u (hi b n) q,fun b u q n _ _=>⟨u.slots,k b u (hb b n) q⟩,fun b u q n _=>by rw [aF (hx b n)];exact n,fun b u q _=> ?_,
  fun b xs q=>by rw [aF (hm b _ q fun z=>z)];exact q,fun b u xs q=>by rw [aF (hm b _ q fun z=>z)];exact q,fun b ps q=>⟨#[],by rw [aF (hm b _ q fun z=>z),q];simp⟩⟩
 by_cases hbe:b=e
 · subst hbe;exact heo
 · exact ⟨u,k b u hbe q⟩
end
noncomputable def trk (h:Heap) (H:Hp):List Addr:=(List.range h.objs.size).filter fun a=>(H a).isSome
noncomputable def hidT (h:Heap) (H:Hp):Heap:=PySem.W.hideAll h (trk h H)
theorem pc (h:Heap) (H:Hp):(hidT h H).objs.size=h.objs.size:=PySem.W.hideAll_size _ _
theorem rF {h:Heap} {H:Hp} {b:Addr} {o:Obj} (e:h.get? b=some o) (n:H b=none):(hidT h H).get? b=some o:=
 PySem.W.hideAll_get _ e fun hm=>by
  have q:(H b).isSome=true:=(z9.mp hm).2
  rw [n] at q;simp at q
theorem nF {h:Heap} {H:Hp} {b:Addr} {o:Obj} (e:(hidT h H).get? b=some o):h.get? b=some o∧H b=none:=by
 have e':h.get? b=some o:=PySem.W.of_hideAll (trk h H) e
 refine ⟨e',?_⟩
 cases q:H b with
 |none=>rfl
 |some x=>
  have hm:b∈trk h H:=z9.mpr ⟨yY.mpr (Heap.lt_size e'),by simp [q]⟩
  have z:(hidT h H).get? b=none:=PySem.W.hideAll_none (trk h H) hm
  rw [z] at e;cases e
noncomputable def uJ (g h:Heap) (L:Addr):List (Addr×Obj):=(List.range h.objs.size).filterMap fun a=>if a=L∨(g.get? a).isSome=true then none else (h.get? a).map fun o=>(a,o)
noncomputable def rest (g h:Heap) (L d:Addr):List (Addr×Obj):=(uJ g h L).filter fun p=>decide (p.1≠d)
open PySem PySem.Spec PyProof.Rows
structure Mod (K:PySem.W.Frag) (mg:Str→Option Value) (base:Heap):Prop where
 kin:K.In base
 glob:base.Ns mainGlobals mg
 blt:∃mb,base.Ns builtinsNs mb∧∀x:Str,x≠"__name__"→mb x=bootBuiltins x
 nolimit:base.NoLimit
structure Cx where
 prog:Program
 w:World
 K:PySem.W.Frag
 mg:Str→Option Value
 base:Heap
 A:Around
 N:List Str
 s₀:Shared
 H₀:Hp
 env:Env
 outer:List Env
 stack:List Env
 ex:List Addr
 fn:Str→Bool
 calm:Bool
 pn:List (Addr×Obj)
 xe:Value→Shared→Prop
def frs (l:List Env):List Addr:=l.filterMap (·.frame)
abbrev Cx.fs (X:Cx):List Addr:=frs X.outer
def Vis (sc:Scope) (x:Str):Prop:=sc.names.lookup x=some .local∨sc.names.lookup x=some .cell∨sc.names.lookup x=some .free
def Loc (sc:Scope) (x:Str):Prop:=sc.names.lookup x=some .local∨sc.names.lookup x=some .cell
def Look (env:Env) (h:Heap) (m:Str→Option Value) (x:Str) (u:Value):Prop:=
 (env.kindOf x=some .local∧m x=some u)∨((env.kindOf x=some .cell∨env.kindOf x=some .free)∧∃c,env.cells.lookup x=some c∧h.IsCell c (some u))
structure Cx.Ok (X:Cx):Prop where
 mod:Mod X.K X.mg X.base
 kind:X.env.scope.kind= .function
 glob:X.env.globals=mainGlobals
 blt:X.env.builtins=builtinsNs
 above:X.s₀.heap.objs.size≤X.env.locals
 inj:∀x y c,X.env.cells.lookup x=some c→X.env.cells.lookup y=some c→x=y
 has:∀x,(X.env.kindOf x=some .cell∨X.env.kindOf x=some .free)→∃c,X.env.cells.lookup x=some c
 cab:∀x c,X.fn x=true→X.env.cells.lookup x=some c→X.s₀.heap.objs.size≤c
 hd:X.calm=true→X.A.handled=none
 frames:X.A.frames=some X.stack
 stk:X.stack=X.outer∨(X.stack=X.env::X.outer∧X.env.frame=some X.env.locals)
 exf:∀b∈X.ex,b≠X.env.locals∧∀x c,X.env.cells.lookup x=some c→c≠b
 bs:∀b o,X.base.get? b=some o→X.s₀.heap.get? b=some o∧Idl (X.H₀ b)
 bsz:X.base.objs.size≤X.s₀.heap.objs.size
 noex:∀b o,X.base.get? b=some o→b∉X.ex
 exfs:∀b∈X.ex,b∉X.fs
 funs:X.s₀.heap.FunFrames X.base X.outer
 frf:∀b∈X.fs,X.H₀ b=none
structure Inv (X:Cx) (pins:List (Addr×Obj)) (σ:List (Option V)) (H:Hp) (s:Shared):Prop where
 ok:X.Ok
 os:s.os=X.s₀.os
 bare:AllBare s.gens
 base:Un X.fs X.ex X.H₀ H X.s₀.heap s.heap
 loc:∃m,s.heap.Ns X.env.locals m∧∀(i:Nat) (x:Str) (v:V),X.N[i]?=some x→σ[i]?=some (some v)→Vis X.env.scope x→∃u,RelV v u∧Look X.env s.heap m x u
 cell:∀x c,X.env.cells.lookup x=some c→∃v,s.heap.IsCell c v
 free:H X.env.locals=none
 freeC:∀x c,X.env.cells.lookup x=some c→H c=none
 pin:∀p∈X.pn++pins,s.heap.get? p.1=some p.2∧H p.1=none∧p.1≠X.env.locals∧p.1∉X.fs∧∀v,p.2.data≠ .cell v
 hok:HOk X.prog X.w H s.heap
 len:σ.length=X.N.length
section
variable {X:Cx} {pins:List (Addr×Obj)} {σ:List (Option V)} {H H':Hp} {s:Shared} {h':Heap}
theorem Cx.Ok.nofr (ok:X.Ok) {b:Addr} {o:Obj} (e:X.base.get? b=some o):b∉X.fs:=fun hb=>by
 have:=(ok.funs.mem hb).1
 rw [e] at this;cases this
theorem Inv.bs (I:Inv X pins σ H s):∀b o,X.base.get? b=some o→s.heap.get? b=some o∧Idl (H b):=fun b o e=>
 ⟨I.base.keep b o (I.ok.bs b o e).1 (I.ok.bs b o e).2 (I.ok.nofr e) (I.ok.noex b o e),I.base.idl (I.ok.bs b o e).1 (I.ok.bs b o e).2 (I.ok.noex b o e)⟩
theorem Inv.bk (I:Inv X pins σ H s):∀b o,X.base.get? b=some o→s.heap.get? b=some o:=fun b o e=>(I.bs b o e).1
theorem Inv.mod (I:Inv X pins σ H s):Mod X.K X.mg X.base:=I.ok.mod
theorem Inv.kIn (I:Inv X pins σ H s):X.K.In s.heap:=I.ok.mod.kin.keeps I.bk
theorem Inv.nolimit (I:Inv X pins σ H s):s.heap.NoLimit:=I.ok.mod.nolimit.keeps I.bk
theorem Inv.fr (I:Inv X pins σ H s):∃m,Fr X.base X.env.locals s.heap m:=
 let ⟨m,hn,_⟩:=I.loc
 ⟨m,hn,I.bk,yU I.ok.bsz I.ok.above⟩
theorem Inv.lt (I:Inv X pins σ H s):X.env.locals < s.heap.objs.size:=let ⟨_,hn,_⟩:=I.loc;hn.lt
theorem Inv.sz (I:Inv X pins σ H s):X.s₀.heap.objs.size≤s.heap.objs.size:=yU I.ok.above (Nat.le_of_lt I.lt)
theorem Inv.nofs (I:Inv X pins σ H s) {a:Addr} (h:s.heap.objs.size≤a):a∉X.fs:=fun hb=>by
 obtain ⟨_,o,ho,_⟩:=I.ok.funs.mem hb
 exact absurd (yB (Heap.lt_size ho) (yU I.sz h)) (Nat.lt_irrefl _)
theorem Inv.cne (I:Inv X pins σ H s):∀x c,X.env.cells.lookup x=some c→c≠X.env.locals:=fun x c e z=>by
 obtain ⟨v,o,ho,hd⟩:=I.cell x c e
 obtain ⟨m,⟨o',es,ep,ho',hd',_⟩,_⟩:=I.loc
 rw [z,ho'] at ho;cases ho;rw [hd'] at hd;cases hd
theorem Inv.funs (I:Inv X pins σ H s):s.heap.FunFrames X.base X.outer:=by
 have all:∀(l:List Env),(∀b∈frs l,b∈X.fs)→X.s₀.heap.FunFrames X.base l→s.heap.FunFrames X.base l:=by
  intro l
  induction l with
  |nil=>intro _ _;trivial
  |cons env r ih=>
   intro hs hl
   obtain ⟨hk,⟨L,o,hf,hn,ho,hd⟩,hr⟩:=hl
   have hL:L∈X.fs:=hs L (by unfold frs;rw [zo,hf];exact yn)
   obtain ⟨sl,e⟩:=I.base.slot L o ho (I.ok.frf L hL) hL fun z=>I.ok.exfs L z hL
   exact ⟨hk,⟨L,_,hf,hn,e,hd⟩,ih (fun b hb=>hs b (by unfold frs;rw [zo,hf];exact ym _ hb)) hr⟩
 exact all X.outer (fun _ hb=>hb) I.ok.funs
theorem Inv.stack (I:Inv X pins σ H s):s.heap.FunFrames X.base X.stack:=by
 rcases I.ok.stk with e|⟨e,hf⟩
 · rw [e];exact I.funs
 · rw [e]
   obtain ⟨m,hn,_⟩:=I.loc
   refine .cons (by rw [I.ok.kind];decide) hf hn ?_ I.funs
   exact Heap.get?_none_of_le (yU I.ok.bsz I.ok.above)
theorem Inv.stkSub (I:Inv X pins σ H s):∀b∈frs X.stack,b∈X.env.locals::X.fs:=fun b hb=>by
 rcases I.ok.stk with e|⟨e,hf⟩
 · rw [e] at hb;exact ym _ hb
 · rw [e] at hb
   unfold frs at hb
   rw [zo,hf] at hb
   exact hb
theorem Inv.stkFree (I:Inv X pins σ H s):∀b∈frs X.stack,H b=none:=fun b hb=>by
 rcases yk.mp (I.stkSub b hb) with e|hb
 · rw [e];exact I.free
 · obtain ⟨_,o,ho,_⟩:=I.ok.funs.mem hb
   exact I.base.free b o ho (I.ok.frf b hb) fun z=>I.ok.exfs b z hb
theorem Inv.step {g':Array GenState} {t':Nat} {d':Drawn} {ch:List Addr} (I:Inv X pins σ H s)
 (hch:∀b∈ch,(b∈X.ex∨X.s₀.heap.objs.size≤b)∧b≠X.env.locals∧(∀x c,X.env.cells.lookup x=some c→c≠b)∧∀p∈X.pn++pins,p.1≠b)
 (keep:∀b o,b≠X.env.locals→b∉X.fs→b∉ch→s.heap.get? b=some o→Idl (H b)→h'.get? b=some o)
 (slot:∀b o,b≠X.env.locals→b∈X.fs→b∉ch→s.heap.get? b=some o→H b=none→∃sl,h'.get? b=some {o with slots:=sl}) (free:∀b o,b∉ch→s.heap.get? b=some o→H b=none→H' b=none)
 (there:∀b o,b∉ch→s.heap.get? b=some o→∃o',h'.get? b=some o')
 (tups:∀b xs,H b=some (.tup xs)→H' b=some (.tup xs)) (frzs:∀b o u,H b=some (.frz o u)→H' b=some (.frz o u)) (tbls:∀b ps,H b=some (.tbl ps)→∃more,H' b=some (.tbl (ps++more)))
 (ns:∀m,s.heap.Ns X.env.locals m→h'.Ns X.env.locals m) (hok:HOk X.prog X.w H' h') (hg:AllBare g'):
 Inv X pins σ H' {s with heap:=h',gens:=g',drawn:=d',toks:=t'}:=by
 have neL:∀b o,X.s₀.heap.get? b=some o→b≠X.env.locals:=fun b o e=>yE (yB (Heap.lt_size e) I.ok.above)
 have neC:∀b o,X.s₀.heap.get? b=some o→b∉X.ex→b∉ch:=fun b o e hx hb=>by
  rcases (hch b hb).1 with z|z
  · exact hx z
  · exact absurd (yB (Heap.lt_size e) z) (Nat.lt_irrefl _)
 have cellK:∀x c,X.env.cells.lookup x=some c→∀v,s.heap.IsCell c v→h'.IsCell c v:=fun x c e v ⟨o,ho,hd⟩=>by
  have nch:c∉ch:=fun z=>(hch c z).2.2.1 x c e rfl
  by_cases hc:c∈X.fs
  · obtain ⟨sl,q⟩:=slot c o (I.cne x c e) hc nch ho (I.freeC x c e)
    exact ⟨_,q,hd⟩
  · exact ⟨o,keep c o (I.cne x c e) hc nch ho (.inl (I.freeC x c e)),hd⟩
 refine ⟨I.ok,I.os,hg,⟨fun b o e n hb hx=> ?_,fun b o e n hb hx=> ?_,fun b o e n hx=> ?_,fun b o e hx=> ?_,fun b xs e=>tups b xs (I.base.tups b xs e),fun b o xs e=>frzs b o xs (I.base.frzs b o xs e),fun b ps e=> ?_⟩,?_,fun x c e=> ?_,?_,fun x c e=> ?_,fun p hp=> ?_,hok,I.len⟩
 · exact keep b o (neL b o e) hb (neC b o e hx) (I.base.keep b o e n hb hx) (I.base.idl e n hx)
 · obtain ⟨sl,e1⟩:=I.base.slot b o e n hb hx
   obtain ⟨sl',e2⟩:=slot b _ (neL b o e) hb (neC b o e hx) e1 (I.base.free b o e n hx)
   exact ⟨sl',e2⟩
 · obtain ⟨o',e1⟩:=I.base.there b o e hx
   exact free b o' (neC b o e hx) e1 (I.base.free b o e n hx)
 · obtain ⟨o',e1⟩:=I.base.there b o e hx
   exact there b o' (neC b o e hx) e1
 · obtain ⟨m1,e1⟩:=I.base.tbls b ps e
   obtain ⟨m2,e2⟩:=tbls b _ e1
   exact ⟨m1++m2,by rw [e2,Array.append_assoc]⟩
 · obtain ⟨m,hn,hl⟩:=I.loc
   refine ⟨m,ns m hn,fun i x v e1 e2 e3=> ?_⟩
   obtain ⟨u,r,l⟩:=hl i x v e1 e2 e3
   refine ⟨u,r,?_⟩
   rcases l with l|⟨k,c,e,z⟩
   · exact .inl l
   · exact .inr ⟨k,c,e,cellK x c e _ z⟩
 · obtain ⟨v,z⟩:=I.cell x c e
   exact ⟨v,cellK x c e v z⟩
 · obtain ⟨m,⟨o,_,_,ho,_⟩,_⟩:=I.loc
   exact free _ o (fun z=>(hch _ z).2.1 rfl) ho I.free
 · obtain ⟨v,o,ho,hd⟩:=I.cell x c e
   exact free c o (fun z=>(hch c z).2.2.1 x c e rfl) ho (I.freeC x c e)
 · obtain ⟨e,n,ne,nf,d⟩:=I.pin p hp
   have nch:p.1∉ch:=fun z=>(hch p.1 z).2.2.2 p hp rfl
   exact ⟨keep p.1 p.2 ne nf nch e (.inl n),free p.1 p.2 nch e n,ne,nf,d⟩
theorem Inv.un {t':Nat} (I:Inv X pins σ H s) (u:Un X.fs [] H H' s.heap h') (hok:HOk X.prog X.w H' h'):Inv X pins σ H' {s with heap:=h',toks:=t'}:=by
 obtain ⟨m,⟨o,es,ep,ho,r⟩,_⟩:=id I.loc
 obtain ⟨sl,hL⟩:=u.any ho I.free (by simp)
 exact I.step (g':=s.gens) (d':=s.drawn) (ch:= []) (fun _ z=>nomatch z) (fun b o _ hb _ e n=>u.keep b o e n hb (by simp)) (fun b o _ hb _ e n=>u.slot b o e n hb (by simp)) (fun b o _ e n=>u.free b o e n (by simp)) (fun b o _ e=>u.there b o e (by simp)) u.tups u.frzs u.tbls (fun m' hm=>by
  obtain ⟨o',es',ep',ho',r'⟩:=hm
  rw [ho] at ho';cases ho'
  exact ⟨_,es',ep',hL,r'⟩) hok I.bare
theorem Inv.call {g':Array GenState} {t':Nat} {d':Drawn} {ch:List Addr} (I:Inv X pins σ H s) (u:Un (frs X.stack) ch H H' s.heap h') (hok:HOk X.prog X.w H' h') (hg:AllBare g')
 (hch:∀b∈ch,(b∈X.ex∨X.s₀.heap.objs.size≤b)∧b≠X.env.locals∧(∀x c,X.env.cells.lookup x=some c→c≠b)∧∀p∈X.pn++pins,p.1≠b):
 Inv X pins σ H' {s with heap:=h',gens:=g',drawn:=d',toks:=t'}:=by
 obtain ⟨m,⟨o,es,ep,ho,r⟩,_⟩:=id I.loc
 obtain ⟨sl,hL⟩:=u.any ho I.free fun z=>(hch _ z).2.1 rfl
 exact I.step (ch:=ch) hch (fun b o hL hb hc e n=>u.keep b o e n (fun z=>(yk.mp (I.stkSub b z)).elim hL hb) hc) (fun b o _ _ hc e n=>u.any e n hc) (fun b o hc e n=>u.free b o e n hc) (fun b o hc e=>u.there b o e hc) u.tups u.frzs u.tbls (fun m' hm=>by
  obtain ⟨o',es',ep',ho',r'⟩:=hm
  rw [ho] at ho';cases ho'
  exact ⟨_,es',ep',hL,r'⟩) hok hg
theorem Inv.turned {t':Nat} {it:Addr} (I:Inv X pins σ H s) (k:∀b o,b≠it→s.heap.get? b=some o→h'.get? b=some o) (hn:H it=none) (hL:it≠X.env.locals)
 (h1:it∈X.ex∨X.s₀.heap.objs.size≤it) (h2:∀x c,X.env.cells.lookup x=some c→c≠it) (h3:∀p∈X.pn++pins,p.1≠it):Inv X pins σ H {s with heap:=h',toks:=t'}:=by
 have nit:∀b u,H b=some u→b≠it:=fun b u e z=>by rw [z,hn] at e;cases e
 refine I.step (g':=s.gens) (d':=s.drawn) (ch:= [it]) (fun b hb=> ?_) (fun b o _ _ hc e _=>k b o (fun z=>hc (by simp [z])) e) (fun b o _ _ hc e _=>⟨o.slots,k b o (fun z=>hc (by simp [z])) e⟩) (fun _ _ _ _ n=>n)
  (fun b o hc e=>⟨o,k b o (fun z=>hc (by simp [z])) e⟩) (fun _ _ e=>e) (fun _ _ _ e=>e) (fun b ps e=>⟨#[],by rw [e];simp⟩) (fun m hm=> ?_) (fun b u e=> ?_) I.bare
 · have e:b=it:=by simpa using hb
   subst e
   exact ⟨h1,hL,h2,h3⟩
 · obtain ⟨o,es,ep,ho,r⟩:=hm
   exact ⟨o,es,ep,k _ o (Ne.symm hL) ho,r⟩
 · refine (I.hok b u e).stay (fun c v hc q=>k c v ?_ q) (fun _ q=>q) fun _ _ q=>q
   rcases hc with z|z
   · rw [z];exact nit b u e
   · exact nit c _ z
theorem Inv.tok (I:Inv X pins σ H s) (t:Nat):Inv X pins σ H {s with toks:=t}:=I.un (h':=s.heap) (t':=t) Un.refl I.hok
theorem Inv.kept {t':Nat} (I:Inv X pins σ H s) (k:∀b u,s.heap.get? b=some u→h'.get? b=some u):Inv X pins σ H {s with heap:=h',toks:=t'}:=I.un (Un.kept k) (I.hok.kept k)
theorem Inv.laid {a:Addr} {o:HO} {t':Nat} (I:Inv X pins σ H s) (k:∀b u,s.heap.get? b=some u→h'.get? b=some u) (hp:s.heap.objs.size≤a) (new:ObjOk X.prog X.w (upd H a o) h' a o):
 Inv X pins σ (upd H a o) {s with heap:=h',toks:=t'}:=I.un (Un.laid k hp (I.hok.fresh hp)) (I.hok.laid k hp new)
theorem Inv.write {x e:Addr} {o:HO} {t':Nat} (I:Inv X pins σ H s) (mu:Mut (H x)) (he:e=x∨H e=some (.own x)) (k:∀b u,b≠e→s.heap.get? b=some u→h'.get? b=some u) (heo:∃u,h'.get? e=some u)
 (new:ObjOk X.prog X.w (upd H x o) h' x o):Inv X pins σ (upd H x o) {s with heap:=h',toks:=t'}:=I.un (Un.write mu he k heo) (I.hok.write mu he k heo new)
theorem Inv.weak {σ':List (Option V)} (I:Inv X pins σ H s) (hl:σ'.length=σ.length) (w:∀(i:Nat) v,σ'[i]?=some (some v)→σ[i]?=some (some v)):Inv X pins σ' H s:=
 ⟨I.ok,I.os,I.bare,I.base,let ⟨m,hn,hl'⟩:=I.loc;⟨m,hn,fun i x v e1 e2 e3=>hl' i x v e1 (w i v e2) e3⟩,I.cell,I.free,I.freeC,I.pin,I.hok,hl.trans I.len⟩
theorem Inv.pins_of {pins':List (Addr×Obj)} (I:Inv X pins σ H s) (h:∀p∈pins',s.heap.get? p.1=some p.2∧H p.1=none∧p.1≠X.env.locals∧p.1∉X.fs∧∀v,p.2.data≠ .cell v):Inv X pins' σ H s:=
 ⟨I.ok,I.os,I.bare,I.base,I.loc,I.cell,I.free,I.freeC,fun p hp=>(yx.mp hp).elim (fun z=>I.pin p (List.mem_append_left _ z)) (h p),I.hok,I.len⟩
theorem km {N:List Str} (hN:N.Nodup) {i j:Nat} {x:Str} (a:N[i]?=some x) (b:N[j]?=some x):i=j:=by
 obtain ⟨h1,e1⟩:=yF.mp a
 obtain ⟨h2,e2⟩:=yF.mp b
 exact (List.getElem_inj hN).mp (e1.trans e2.symm)
theorem oN {M:Model} {A:Around} {E:Value→Shared→Prop} {i:Nat} {x:Str} {v:V} {u:Value} {Q:Unit→Shared→Prop} (I:Inv X pins σ H s) (hN:X.N.Nodup) (hi:X.N[i]?=some x) (hx:Loc X.env.scope x) (r:RelV v u)
 (h:∀s',Inv X pins (σ.set i (some v)) H s'→(∃a,Heap.SameBut a s.heap s'.heap∧(a=X.env.locals∨X.env.cells.lookup x=some a))→Q () s') (hf:X.fn x=true∨X.env.scope.names.lookup x=some .local:=by first|exact .inl rfl|exact .inr rfl|assumption):wpAny M A (storeName X.env x u) Q E s:=by
 obtain ⟨m,hn,hl⟩:=id I.loc
 have hcls:(X.env.scope.kind== .class ||(X.env.scope.kind== .module&&X.env.locals !=X.env.globals))=false:=by rw [I.ok.kind];rfl
 have hiσ:i < σ.length:=by rw [I.len];exact (yF.mp hi).1
 have cne:=I.cne
 have tracked:∀ {a:Addr} {h':Heap},(∃o,s.heap.get? a=some o∧H a=none)→Heap.SameBut a s.heap h'→HOk X.prog X.w H h':=fun {a h'} ha hs b ob e=>by
  obtain ⟨_,_,hfree⟩:=ha
  refine (I.hok b ob e).stay (fun c w' hc q=>(hs.2 c ?_).trans q) (fun _ q=>q) fun _ _ q=>q
  rintro rfl
  rcases hc with rfl|hc
  · rw [hfree] at e;cases e
  · rw [hfree] at hc;cases hc
 rcases hx with hk|hk
 · refine wpAny_storeName_local hk hn (fun h' hn' hs=> ?_) hcls
   obtain ⟨oL,_,_,hoL,_⟩:=id hn
   refine h _ ⟨I.ok,I.os,I.bare,⟨fun b o e n hb hx=> ?_,fun b o e n hb hx=> ?_,I.base.free,fun b o e hx=> ?_,I.base.tups,I.base.frzs,I.base.tbls⟩,⟨_,hn',fun j y v' e1 e2 e3=> ?_⟩,fun y c e=> ?_,I.free,I.freeC,fun p hp=> ?_,tracked ⟨oL,hoL,I.free⟩ hs,by simpa using I.len⟩ ⟨_,hs, .inl rfl⟩
   · exact (hs.2 b (yE (yB (Heap.lt_size e) I.ok.above))).trans (I.base.keep b o e n hb hx)
   · obtain ⟨sl,e1⟩:=I.base.slot b o e n hb hx
     exact ⟨sl,(hs.2 b (yE (yB (Heap.lt_size e) I.ok.above))).trans e1⟩
   · obtain ⟨o',e1⟩:=I.base.there b o e hx
     exact ⟨o',(hs.2 b (yE (yB (Heap.lt_size e) I.ok.above))).trans e1⟩
   · by_cases hj:j=i
     · subst hj
       rw [hi] at e1;cases e1
       rw [List.getElem?_set_self hiσ] at e2
       cases e2
       exact ⟨u,r, .inl ⟨hk,by simp⟩⟩
     · rw [List.getElem?_set_ne (Ne.symm hj)] at e2
       obtain ⟨u',r',q⟩:=hl j y v' e1 e2 e3
       refine ⟨u',r',?_⟩
       rcases q with ⟨k,e⟩|⟨k,c,e,z⟩
       · refine .inl ⟨k,?_⟩
         have:y≠x:=fun e=>hj (km hN e1 (e▸hi))
         simp [this,e]
       · exact .inr ⟨k,c,e,z.sameBut hs (cne y c e)⟩
   · obtain ⟨w',z⟩:=I.cell y c e
     exact ⟨w',z.sameBut hs (cne y c e)⟩
   · obtain ⟨e,n,ne,nf,d⟩:=I.pin p hp
     exact ⟨(hs.2 p.1 ne).trans e,n,ne,nf,d⟩
 · have hfn:X.fn x=true:=by
    rcases hf with z|z
    · exact z
    · rw [z] at hk;cases hk
   obtain ⟨c,hc⟩:=I.ok.has x (.inl hk)
   obtain ⟨w',z⟩:=I.cell x c hc
   refine wpAny_storeName_cell I.ok.kind hk hc z (fun h' hc' hs=> ?_)
   obtain ⟨oc,hoc,hocd⟩:=id z
   refine h {s with heap:=h'} ⟨I.ok,I.os,I.bare,⟨fun b o e n hb hx=> ?_,fun b o e n hb hx=> ?_,I.base.free,fun b o e hx=> ?_,I.base.tups,I.base.frzs,I.base.tbls⟩,⟨m,hn.sameBut hs (Ne.symm (cne x c hc)),fun j y v' e1 e2 e3=> ?_⟩,fun y c' e=> ?_,I.free,I.freeC,fun p hp=> ?_,tracked ⟨oc,hoc,I.freeC x c hc⟩ hs,by simpa using I.len⟩ ⟨c,hs, .inr hc⟩
   · exact (hs.2 b (yE (yB (Heap.lt_size e) (I.ok.cab x c hfn hc)))).trans (I.base.keep b o e n hb hx)
   · obtain ⟨sl,e1⟩:=I.base.slot b o e n hb hx
     exact ⟨sl,(hs.2 b (yE (yB (Heap.lt_size e) (I.ok.cab x c hfn hc)))).trans e1⟩
   · obtain ⟨o',e1⟩:=I.base.there b o e hx
     exact ⟨o',(hs.2 b (yE (yB (Heap.lt_size e) (I.ok.cab x c hfn hc)))).trans e1⟩
   · by_cases hj:j=i
     · subst hj
       rw [hi] at e1;cases e1
       rw [List.getElem?_set_self hiσ] at e2
       cases e2
       exact ⟨u,r, .inr ⟨.inl hk,c,hc,hc'⟩⟩
     · rw [List.getElem?_set_ne (Ne.symm hj)] at e2
       obtain ⟨u',r',q⟩:=hl j y v' e1 e2 e3
       refine ⟨u',r',?_⟩
       rcases q with q|⟨k,c',e,z'⟩
       · exact .inl q
       · refine .inr ⟨k,c',e,z'.sameBut hs ?_⟩
         rintro rfl
         exact hj (km hN e1 (I.ok.inj _ _ _ e hc▸hi))
   · by_cases hcc:c'=c
     · subst hcc;exact ⟨_,hc'⟩
     · obtain ⟨w2,z2⟩:=I.cell y c' e
       exact ⟨w2,z2.sameBut hs hcc⟩
   · obtain ⟨e,n,ne,nf,d⟩:=I.pin p hp
     refine ⟨(hs.2 p.1 ?_).trans e,n,ne,nf,d⟩
     intro q
     rw [q,hoc] at e
     have q':oc=p.2:=yP e
     exact d w' (by rw [←q'];exact hocd)
theorem eL {M:Model} {A:Around} {E:Value→Shared→Prop} {i:Nat} {x:Str} {v:V} {u:Value} {Q:Unit→Shared→Prop} (I:Inv X pins σ H s) (hN:X.N.Nodup) (hi:X.N[i]?=some x) (hx:Loc X.env.scope x) (r:RelV v u)
 (h:∀s',Inv X pins (σ.set i (some v)) H s'→Q () s') (hf:X.fn x=true∨X.env.scope.names.lookup x=some .local:=by first|exact .inl rfl|exact .inr rfl|assumption):wpAny M A (storeName X.env x u) Q E s:=
 oN I hN hi hx r (fun s' I' _=>h s' I') hf
theorem Inv.call' {s':Shared} {ch:List Addr} (I:Inv X pins σ H s) (ho:s'.os=s.os) (u:Un (frs X.stack) ch H H' s.heap s'.heap) (hok:HOk X.prog X.w H' s'.heap) (hg:AllBare s'.gens)
 (hch:∀b∈ch,(b∈X.ex∨X.s₀.heap.objs.size≤b)∧b≠X.env.locals∧(∀x c,X.env.cells.lookup x=some c→c≠b)∧∀p∈X.pn++pins,p.1≠b):Inv X pins σ H' s':=by
 obtain ⟨h',g',d',t',o'⟩:=s'
 have e:o'=s.os:=ho
 subst e
 exact I.call (g':=g') (t':=t') (d':=d') u hok hg hch
end
abbrev XK:=Value→Option Addr→Hp→Prop
abbrev St:=List (Option V)
abbrev VK:=V→Hp→Prop
abbrev TE:=St→Hp→VK→Prop
abbrev TT:=St→Hp→(Bool→Hp→Prop)→Prop
abbrev TA:=St→Hp→(List V→Hp→Prop)→Prop
structure Ends where
 nx:St→Hp→Prop
 rt:VK
 bk:St→Hp→Prop:=fun _ _=>False
 ct:St→Hp→Prop:=fun _ _=>False
abbrev TS:=Ends→St→Hp→Prop
def EP (X:Cx) (pins:List (Addr×Obj)) (σ:St) (Q:VK) (u:Value) (s':Shared):Prop:=∃v H',Inv X pins σ H' s'∧RelV v u∧Q v H'
def TP (X:Cx) (pins:List (Addr×Obj)) (σ:St) (Q:Bool→Hp→Prop) (b:Bool) (s':Shared):Prop:=∃H',Inv X pins σ H' s'∧Q b H'
def AP (X:Cx) (pins:List (Addr×Obj)) (σ:St) (Q:List V→Hp→Prop) (us:List Value) (s':Shared):Prop:=∃vs H',Inv X pins σ H' s'∧Vals vs us∧Q vs H'
def SP (X:Cx) (pins:List (Addr×Obj)) (D:Ends) (f:Flow) (s':Shared):Prop:=
 match f with
 | .next=>∃σ' H',Inv X pins σ' H' s'∧D.nx σ' H'
 | .brk=>∃σ' H',Inv X pins σ' H' s'∧D.bk σ' H'
 | .cont=>∃σ' H',Inv X pins σ' H' s'∧D.ct σ' H'
 | .ret u=>∃v σ' H',Inv X pins σ' H' s'∧RelV v u∧D.rt v H'
def PE (X:Cx) (e:Expr) (t:TE):Prop:=
 ∀(pins:List (Addr×Obj)) (s:Shared) (σ:St) (H:Hp) (Q:VK),Inv X pins σ H s→t σ H Q→wpAny (model X.prog X.w) X.A (eval e X.env) (EP X pins σ Q) X.xe s
def PT (X:Cx) (e:Expr) (t:TT):Prop:=
 ∀(pins:List (Addr×Obj)) (s:Shared) (σ:St) (H:Hp) (Q:Bool→Hp→Prop),Inv X pins σ H s→t σ H Q→wpAny (model X.prog X.w) X.A (isTrue e X.env (eval e X.env)) (TP X pins σ Q) X.xe s
def PW (X:Cx) (e:Expr) (t:TT):Prop:=
 ∀(whole:Sem Value) (pins:List (Addr×Obj)) (s:Shared) (σ:St) (H:Hp) (Q:Bool→Hp→Prop),Inv X pins σ H s→t σ H Q→wpAny (model X.prog X.w) X.A (isTrue e X.env whole) (TP X pins σ Q) X.xe s
theorem PW.pt {X:Cx} {e:Expr} {t:TT} (h:PW X e t):PT X e t:=h _
def PA (X:Cx) (es:List Expr) (t:TA):Prop:=
 ∀(pos:Pos) (pins:List (Addr×Obj)) (s:Shared) (σ:St) (H:Hp) (Q:List V→Hp→Prop),Inv X pins σ H s→t σ H Q→wpAny (model X.prog X.w) X.A (spliced (backTo pos (starEach es X.env))) (AP X pins σ Q) X.xe s
def PS (X:Cx) (st:Stmt) (t:TS):Prop:=
 ∀(pins:List (Addr×Obj)) (s:Shared) (σ:St) (H:Hp) (D:Ends),Inv X pins σ H s→t D σ H→wpAny (model X.prog X.w) X.A (exec st X.env) (SP X pins D) X.xe s
def PSs (X:Cx) (st:List Stmt) (t:TS):Prop:=
 ∀(pins:List (Addr×Obj)) (s:Shared) (σ:St) (H:Hp) (D:Ends),Inv X pins σ H s→t D σ H→wpAny (model X.prog X.w) X.A (execs st X.env) (SP X pins D) X.xe s
theorem thn {α:Type} {t:Sem α} {Q Q':α→Shared→Prop} {M:Model} {A:Around} {E:Value→Shared→Prop} {s:Shared} (h:wpAny M A t Q E s) (hQ:∀a s,Q a s→Q' a s):wpAny M A t Q' E s:=wpAny_mono h hQ fun _ _ x=>x
open PySem PySem.Spec PyProof.Rows
section
variable {X:Cx}
def tVar (i:Nat):TE:=fun σ H Q=>∃v,σ[i]?=some (some v)∧Q v H
def tC (v:V):TE:=fun _ H Q=>Q v H
theorem vU {i:Nat} {x:Str} {pos:Pos} (hN:X.N[i]?=some x) (hv:Vis X.env.scope x) (hd:(x==("__debug__":Str))=false:=by decide) (hcd:(x==("__classdict__":Str))=false:=by decide):PE X (.Name x pos) (tVar i):=by
 intro pins s σ H Q I h
 obtain ⟨v,e,h⟩:=h
 obtain ⟨m,hn,hl⟩:=I.loc
 obtain ⟨u,r,l⟩:=hl i x v hN e hv
 have fin:EP X pins σ Q u s:=⟨v,H,I,r,h⟩
 rcases l with ⟨hk,hm⟩|⟨hk,c,hc,hcell⟩
 · exact wpAny_Name (wpAny_loadName_local I.ok.kind hk hn hm fin) hd
 · rcases hk with hk|hk
   · exact wpAny_Name (wpAny_loadName_cell I.ok.kind hk hc hcell fin) hd
   · exact wpAny_Name (wpAny_loadName_free I.ok.kind hk hc hcell fin hcd) hd
theorem ac {i j pos}:PE X (.Constant (.int i) j pos) (tC (.int i)):=fun _ _ _ H _ I h=>wpAny_Constant_int ⟨.int i,H,I.tok _,⟨_,rfl⟩,h⟩
theorem bR {b j pos}:PE X (.Constant (.bool b) j pos) (tC (.bl b)):=fun _ _ _ H _ I h=>Constant_bool ⟨.bl b,H,I,rfl,h⟩
theorem vV {j pos}:PE X (.Constant .none j pos) (tC .non):=fun _ _ _ H _ I h=>Constant_none ⟨.non,H,I,rfl,h⟩
theorem aG {x j pos}:PE X (.Constant (.str x) j pos) (tC (.str x)):=fun _ _ _ H _ I h=>Calls.Constant_str ⟨.str x,H,I.tok _,⟨_,rfl⟩,h⟩
def Gl (X:Cx) (x:Str):Prop:=X.env.kindOf x=some .globalImplicit
theorem jw {E:Value→Shared→Prop} {pins:List (Addr×Obj)} {s:Shared} {σ:St} {H:Hp} {x:Str} {u:Value} {pos:Pos} {Q:Value→Shared→Prop} (I:Inv X pins σ H s) (hg:Gl X x) (hm:X.mg x=some u) (h:Q u s)
 (hd:(x==("__debug__":Str))=false:=by decide):wpAny (model X.prog X.w) X.A (eval (.Name x pos) X.env) Q E s:=
 Calls.Name_function_global I.ok.kind hg (Calls.loadGlobal_global (by rw [I.ok.glob];exact I.mod.glob.keeps I.bk) hm h) hd
theorem ft {E:Value→Shared→Prop} {pins:List (Addr×Obj)} {s:Shared} {σ:St} {H:Hp} {x:Str} {u:Value} {pos:Pos} {Q:Value→Shared→Prop} (I:Inv X pins σ H s) (hg:Gl X x) (hm:X.mg x=none) (hv:bootBuiltins x=some u) (h:Q u s)
 (hn:x≠"__name__":=by decide) (hd:(x==("__debug__":Str))=false:=by decide):wpAny (model X.prog X.w) X.A (eval (.Name x pos) X.env) Q E s:=by
 obtain ⟨mb,h1,h2⟩:=I.mod.blt
 exact Calls.Name_function_global I.ok.kind hg (Calls.loadGlobal_builtin (by rw [I.ok.glob];exact I.mod.glob.keeps I.bk) hm (by rw [I.ok.blt];exact h1.keeps I.bk) ((h2 x hn).trans hv) h) hd
theorem jh {x:Str} {v:V} {u:Value} {pos:Pos} (hg:Gl X x) (hm:X.mg x=some u) (r:RelV v u) (hd:(x==("__debug__":Str))=false:=by decide):PE X (.Name x pos) (tC v):=
 fun _ _ _ H _ I h=>jw I hg hm ⟨v,H,I,r,h⟩ hd
theorem aT {x:Str} {v:V} {u:Value} {pos:Pos} (hg:Gl X x) (hm:X.mg x=none) (hv:bootBuiltins x=some u) (r:RelV v u) (hn:x≠"__name__":=by decide) (hd:(x==("__debug__":Str))=false:=by decide):PE X (.Name x pos) (tC v):=
 fun _ _ _ H _ I h=>ft I hg hm hv ⟨v,H,I,r,h⟩ hn hd
variable {a b:Expr} {ta tb:TE} {pos:Pos}
def tB (t:TE):TT:=fun σ H Q=>t σ H fun x H1=>∃c,x= .bl c∧Q c H1
theorem aJ {e:Expr} {t:TE} (h:PE X e t) (he:∀whole,isTrue e X.env whole=(do let v←whole;standAt e.pos;holding [v] (truthy v)):=by intro _;rfl):PT X e (tB t):=by
 intro pins s σ H Q I hw
 refine isTrue_plain (thn (h pins s σ H _ I hw) fun v s1 ⟨x,H1,I1,r1,q1⟩=> ?_) (he _)
 obtain ⟨d,rfl,q⟩:=q1
 cases r1
 exact wpAny_truthy_bool ⟨H1,I1,q⟩
variable {tA tB':TT} {rest:List Expr}
def tAnd (t u:TT):TT:=fun σ H Q=>t σ H fun c H1=>if c=true then u σ H1 Q else Q false H1
def tOr (t u:TT):TT:=fun σ H Q=>t σ H fun c H1=>if c=true then Q true H1 else u σ H1 Q
def tNot (t:TT):TT:=fun σ H Q=>t σ H fun c H1=>Q (!c) H1
theorem dz (ha:PT X a tA):PW X (.BoolOp .And [a] pos) tA:=by
 intro wh pins s σ H Q I h
 refine isTrue_and (thn (ha pins s σ H Q I h) fun c s1 e=> ?_)
 cases c with
 |true=>exact isTrue_and_nil e
 |false=>exact e
theorem bK (ha:PT X a tA):PW X (.BoolOp .Or [a] pos) tA:=by
 intro wh pins s σ H Q I h
 refine isTrue_or (thn (ha pins s σ H Q I h) fun c s1 e=> ?_)
 cases c with
 |false=>exact isTrue_or_nil e
 |true=>exact e
theorem eA (ha:PT X a tA) (hb:PW X (.BoolOp .And (b::rest) pos) tB'):PW X (.BoolOp .And (a::b::rest) pos) (tAnd tA tB'):=by
 intro wh pins s σ H Q I h
 refine isTrue_and (thn (ha pins s σ H _ I h) fun c s1 ⟨H1,I1,q1⟩=> ?_)
 cases c with
 |true=>exact hb wh pins s1 σ H1 Q I1 q1
 |false=>exact ⟨H1,I1,q1⟩
theorem bQ (ha:PT X a tA) (hb:PW X (.BoolOp .Or (b::rest) pos) tB'):PW X (.BoolOp .Or (a::b::rest) pos) (tOr tA tB'):=by
 intro wh pins s σ H Q I h
 refine isTrue_or (thn (ha pins s σ H _ I h) fun c s1 ⟨H1,I1,q1⟩=> ?_)
 cases c with
 |true=>exact ⟨H1,I1,q1⟩
 |false=>exact hb wh pins s1 σ H1 Q I1 q1
theorem aS (ha:PT X a tA):PT X (.UnaryOp .Not a pos) (tNot tA):=by
 intro pins s σ H Q I h
 exact isTrue_not (ha pins s σ H (fun c H1=>Q (!c) H1) I h)
def uU (ta tb:TE):TE:=fun σ H Q=>ta σ H fun x H1=>∃c,x= .bl c∧if c=true then tb σ H1 Q else Q (.bl false) H1
def x6 (ta:TE):TE:=fun σ H Q=>ta σ H fun x H1=>∃c,x= .bl c∧Q (.bl (!c)) H1
theorem bn {op} {t:TE} (h:PE X a t):PE X (.BoolOp op [a] pos) t:=fun pins s σ H Q I hw=>BoolOp_one (h pins s σ H Q I hw)
theorem b7 (ha:PE X a ta) (hb:PE X (.BoolOp .And (b::rest) pos) tb):PE X (.BoolOp .And (a::b::rest) pos) (uU ta tb):=by
 intro pins s σ H Q I h
 refine BoolOp_and (thn (ha pins s σ H _ I h) fun v s1 ⟨x,H1,I1,r1,q1⟩=> ?_)
 obtain ⟨c,rfl,q1⟩:=q1
 cases r1
 refine wpAny_truthy_bool ?_
 cases c with
 |true=>exact hb pins s1 σ H1 Q I1 q1
 |false=>exact ⟨.bl false,H1,I1,rfl,q1⟩
theorem qI (ha:PE X a ta):PE X (.UnaryOp .Not a pos) (x6 ta):=by
 intro pins s σ H Q I h
 refine UnaryOp_ (thn (ha pins s σ H _ I h) fun v s1 ⟨x,H1,I1,r1,q1⟩=> ?_)
 obtain ⟨c,rfl,q1⟩:=q1
 cases r1
 exact not_of (wpAny_truthy_bool ⟨.bl (!c),H1,I1,rfl,q1⟩)
end
open PySem PySem.Spec PyProof.Rows
def SqL (K:PySem.W.Frag) (H:Hp) (a:Addr) (xs:List V):Prop:=
 Rd H a (.lst xs)∨
  ∃(o:Obj) (its:Array Value) (n:Nat),K.lookup a=some o∧o.cls= .type "list"∧o.dict=none∧o.data= .seq its n∧its.size≤sizeLine∧Vals xs its.toList
def SqT (K:PySem.W.Frag) (H:Hp) (a:Addr) (xs:List V):Prop:=
 Rd H a (.tup xs)∨
  ∃(o:Obj) (its:Array Value) (n:Nat),K.lookup a=some o∧o.cls= .type "tuple"∧o.data= .seq its n∧its.size≤sizeLine∧Vals xs its.toList
noncomputable def absV:Value→Option V
 | .none=>some .non
 | .bool b=>some (.bl b)
 | .int i _=>some (.int i)
 | .str x _=>some (.str x)
 | .bytes b _=>some (.byt b)
 | .float b _=>some (.flt b)
 | .ref a=>some (.ref a)
 | .type n=>some (.ty n)
 |_=>none
theorem RelV.abs {x:V} {u:Value} (r:RelV x u):absV u=some x:=by
 cases x with
 |non=>cases r;rfl
 |bl _=>cases r;rfl
 |int _=>obtain ⟨t,rfl⟩:=r;rfl
 |str _=>obtain ⟨t,rfl⟩:=r;rfl
 |byt _=>obtain ⟨t,rfl⟩:=r;rfl
 |flt _=>obtain ⟨t,rfl⟩:=r;rfl
 |ref _=>cases r;rfl
 |ty _=>cases r;rfl
theorem RelV.inj {x y:V} {u:Value} (r:RelV x u) (q:RelV y u):x=y:=yP (r.abs.symm.trans q.abs)
theorem Vals.inj:∀ {xs ys:List V} {us:List Value},Vals xs us→Vals ys us→xs=ys
 |_,_,_, .nil, .nil=>rfl
 |_,_,_, .cons r t, .cons r' t'=>by rw [r.inj r',Vals.inj t t']
section
variable {X:Cx} {pins:List (Addr×Obj)} {σ:St} {H:Hp} {s:Shared} {a:Addr} {xs ys:List V}
theorem SqL.of {K:PySem.W.Frag} (h:H a=some (.lst xs)):SqL K H a xs:= .inl (.inl h)
theorem SqT.of {K:PySem.W.Frag} (h:H a=some (.tup xs)):SqT K H a xs:= .inl (.inl h)
theorem Inv.list (I:Inv X pins σ H s) (h:SqL X.K H a xs):∃its:List Value,Vals xs its∧PlainL s.heap a its.toArray∧xs.length≤sizeLine:=by
 rcases h with h|⟨o,its,n,hk,hc,hd,hs,hz,r⟩
 · obtain ⟨z,its,n,r,e⟩:=h.ok I.hok
   exact ⟨its,r,⟨_,n,e,rfl,rfl,rfl⟩,z⟩
 · refine ⟨its.toList,r,⟨o,n,I.kIn a o hk,hc,hd,by simpa using hs⟩,?_⟩
   have e:=r.length
   simp only [yy] at e
   omega
theorem Inv.tuple (I:Inv X pins σ H s) (h:SqT X.K H a xs):∃its:List Value,Vals xs its∧IsTup s.heap a its.toArray∧xs.length≤sizeLine:=by
 rcases h with h|⟨o,its,n,hk,hc,hs,hz,r⟩
 · obtain ⟨z,its,r,p⟩:=h.ok I.hok
   exact ⟨its,r,p,z⟩
 · refine ⟨its.toList,r,⟨o,I.kIn a o hk,hc,n,by simpa using hs⟩,?_⟩
   have e:=r.length
   simp only [yy] at e
   omega
theorem Inv.list_inj (I:Inv X pins σ H s) (h:SqL X.K H a xs) (h':SqL X.K H a ys):xs=ys:=by
 obtain ⟨its,r,⟨o,n,e,_,_,d⟩,_⟩:=I.list h
 obtain ⟨its',r',⟨o',n',e',_,_,d'⟩,_⟩:=I.list h'
 rw [e] at e';cases e'
 rw [d] at d'
 injection d' with d1 _
 have:its=its':=by simpa using congrArg Array.toList d1
 subst this
 exact r.inj r'
theorem Inv.tuple_inj (I:Inv X pins σ H s) (h:SqT X.K H a xs) (h':SqT X.K H a ys):xs=ys:=by
 obtain ⟨its,r,⟨o,e,_,n,d⟩,_⟩:=I.tuple h
 obtain ⟨its',r',⟨o',e',_,n',d'⟩,_⟩:=I.tuple h'
 rw [e] at e';cases e'
 rw [d] at d'
 injection d' with d1 _
 have:its=its':=by simpa using congrArg Array.toList d1
 subst this
 exact r.inj r'
end
abbrev Cx.wish (X:Cx) (E:Value→Shared→Prop):Cx:= {X with xe:=E}
abbrev Cx.nox (X:Cx):Cx:=X.wish fun _ _=>False
theorem Cx.Ok.wish {X:Cx} (ok:X.Ok) (E:Value→Shared→Prop):(X.wish E).Ok:=
 ⟨ok.mod,ok.kind,ok.glob,ok.blt,ok.above,ok.inj,ok.has,ok.cab,ok.hd,ok.frames,ok.stk,ok.exf,ok.bs,ok.bsz,ok.noex,ok.exfs,ok.funs,ok.frf⟩
theorem Cx.Ok.unwish {X:Cx} {E:Value→Shared→Prop} (ok:(X.wish E).Ok):X.Ok:=
 ⟨ok.mod,ok.kind,ok.glob,ok.blt,ok.above,ok.inj,ok.has,ok.cab,ok.hd,ok.frames,ok.stk,ok.exf,ok.bs,ok.bsz,ok.noex,ok.exfs,ok.funs,ok.frf⟩
section
variable {X:Cx} {pins:List (Addr×Obj)} {σ:St} {H:Hp} {s:Shared} {E:Value→Shared→Prop}
theorem Inv.wish (I:Inv X pins σ H s) (E:Value→Shared→Prop):Inv (X.wish E) pins σ H s:=⟨I.ok.wish E,I.os,I.bare,I.base,I.loc,I.cell,I.free,I.freeC,I.pin,I.hok,I.len⟩
theorem Inv.unwish (I:Inv (X.wish E) pins σ H s):Inv X pins σ H s:=⟨I.ok.unwish,I.os,I.bare,I.base,I.loc,I.cell,I.free,I.freeC,I.pin,I.hok,I.len⟩
theorem SP.unwish {D:Ends} {f:Flow} {s':Shared} (h:SP (X.wish E) pins D f s'):SP X pins D f s':=by
 cases f with
 |next=>obtain ⟨σ',H',I,q⟩:=h;exact ⟨σ',H',I.unwish,q⟩
 |brk=>obtain ⟨σ',H',I,q⟩:=h;exact ⟨σ',H',I.unwish,q⟩
 |cont=>obtain ⟨σ',H',I,q⟩:=h;exact ⟨σ',H',I.unwish,q⟩
 |ret u=>obtain ⟨v,σ',H',I,r,q⟩:=h;exact ⟨v,σ',H',I.unwish,r,q⟩
theorem PSs.nox {st:List Stmt} {t:TS} (h:PSs X.nox st t):PSs X st t:=fun pins s σ H D I hw=>
 wpAny_mono (h pins s σ H D (I.wish _) hw) (fun _ _ q=>q.unwish) fun _ _ z=>False.elim z
end
section
variable {X:Cx} {st:Stmt} {rest:List Stmt} {t u:TS} {e:Expr} {te:TE} {pos:Pos}
def uS:TS:=fun D σ H=>D.nx σ H
def tSeq (t u:TS):TS:=fun D σ H=>t {D with nx:=u D} σ H
theorem aw:PSs X [] uS:=fun _ _ σ H _ I h=>wpAny_execs_nil ⟨σ,H,I,h⟩
theorem ae (h1:PS X st t) (h2:PSs X rest u):PSs X (st::rest) (tSeq t u):=by
 intro pins s σ H D I h
 refine wpAny_execs_cons (thn (h1 pins s σ H {D with nx:=u D} I h) fun f s1 q=> ?_)
 cases f with
 |next=>
  obtain ⟨σ',H',I',q⟩:=q
  exact h2 pins s1 σ' H' D I' q
 |ret v=>exact q
 |brk=>exact q
 |cont=>exact q
theorem ai (h1:PS X st t):PSs X [st] t:=by
 intro pins s σ H D I h
 refine wpAny_execs_cons (thn (h1 pins s σ H D I h) fun f s1 q=> ?_)
 cases f with
 |next=>exact wpAny_execs_nil q
 |ret v=>exact q
 |brk=>exact q
 |cont=>exact q
theorem Inv.quiet {pins:List (Addr×Obj)} {σ:St} {H:Hp} {s:Shared} (I:Inv X pins σ H s):interactive X.env=false:=by simp [interactive,I.ok.kind]
def xa (te:TE):TS:=fun D σ H=>te σ H fun _ H1=>D.nx σ H1
theorem ge (he:PE X e te) (hs:swapsWith e none pos.line X.env=pure false:=by rfl):PS X (.Expr e pos) (xa te):=by
 intro pins s σ H D I h
 exact wpAny_Expr_any (thn (he pins s σ H _ I h) fun v s1 ⟨x,H1,I1,r1,q1⟩=>⟨σ,H1,I1,q1⟩) I.quiet hs
def tRet (te:TE):TS:=fun D σ H=>te σ H D.rt
theorem ak (he:PE X e te):PS X (.Return (some e) pos) (tRet te):=by
 intro pins s σ H D I h
 exact wpAny_Return_some (thn (he pins s σ H _ I h) fun v s1 ⟨x,H1,I1,r1,q1⟩=>⟨x,σ,H1,I1,r1,q1⟩)
def tIfS (c:TT) (t u:TS):TS:=fun D σ H=>c σ H fun b H1=>if b=true then t D σ H1 else u D σ H1
theorem aM {c:Expr} {a b:List Stmt} {tc:TT} (hc:PT X c tc) (ha:PSs X a t) (hb:PSs X b u):PS X (.If c a b pos) (tIfS tc t u):=by
 intro pins s σ H D I h
 refine wpAny_If (thn (hc pins s σ H _ I h) fun d s1 ⟨H1,I1,q1⟩=> ?_)
 cases d with
 |true=>exact ha pins s1 σ H1 D I1 q1
 |false=>exact hb pins s1 σ H1 D I1 q1
end
abbrev TG:=V→St→Hp→(St→Hp→Prop)→Prop
abbrev TGs:=List V→St→Hp→(St→Hp→Prop)→Prop
def PG (X:Cx) (target:Expr) (t:TG):Prop:=
 ∀(pins:List (Addr×Obj)) (s:Shared) (σ:St) (H:Hp) (v:V) (u:Value) (Q:St→Hp→Prop),Inv X pins σ H s→RelV v u→t v σ H Q→
  wpAny (model X.prog X.w) X.A (assign target X.env u) (fun _ s'=>∃σ' H',Inv X pins σ' H' s'∧Q σ' H') X.xe s
def PGs (X:Cx) (ts:List Expr) (t:TGs):Prop:=
 ∀(pins:List (Addr×Obj)) (s:Shared) (σ:St) (H:Hp) (vs:List V) (us:List Value) (Q:St→Hp→Prop),Inv X pins σ H s→Vals vs us→t vs σ H Q→
  wpAny (model X.prog X.w) X.A (assignInOrder ((assignEach ts X.env).map (·.2)) us) (fun _ s'=>∃σ' H',Inv X pins σ' H' s'∧Q σ' H') X.xe s
abbrev TSet:=V→V→V→Hp→(Hp→Prop)→Prop
def PSet (X:Cx) (t:TSet):Prop:=
 ∀(pins:List (Addr×Obj)) (s:Shared) (σ:St) (H:Hp) (o i v:V) (ov iv u:Value) (Q:Hp→Prop),Inv X pins σ H s→RelV o ov→RelV i iv→RelV v u→t o i v H Q→
  wpAny (model X.prog X.w) X.A (setItem ov iv u) (fun _ s'=>∃H',Inv X pins σ H' s'∧Q H') X.xe s
section
variable {X:Cx} {pos:Pos}
def dn (i:Nat):TG:=fun v σ H Q=>Q (σ.set i (some v)) H
theorem aQ {i:Nat} {x:Str} (hN:X.N.Nodup) (hi:X.N[i]?=some x) (hx:Loc X.env.scope x) (hf:X.fn x=true∨X.env.scope.names.lookup x=some .local:=by first|exact .inl rfl|exact .inr rfl|assumption):PG X (.Name x pos) (dn i):=by
 intro pins s σ H v u Q I r h
 exact wpAny_assign_Name (eL I hN hi hx r (fun s' I'=>⟨_,H,I',h⟩) hf)
def gNil:TGs:=fun vs σ H Q=>vs= []∧Q σ H
def kX (t:TG) (u:TGs):TGs:=fun vs σ H Q=>∃v r,vs=v::r∧t v σ H fun σ' H'=>u r σ' H' Q
theorem jg:PGs X [] gNil:=by
 intro pins s σ H vs us Q I r h
 obtain ⟨e,h⟩:=h
 subst e
 cases r
 exact assignInOrder_nil ⟨σ,H,I,h⟩
theorem cP {e:Expr} {es:List Expr} {t:TG} {u:TGs} (h1:PG X e t) (h2:PGs X es u)
 (hs:(assignEach (e::es) X.env).map (·.2)=assign e X.env::(assignEach es X.env).map (·.2):=by rfl):PGs X (e::es) (kX t u):=by
 intro pins s σ H vs us Q I r h
 obtain ⟨v,vr,e1,h⟩:=h
 subst e1
 cases r with
 |cons r rr=>
  rw [hs]
  refine assignInOrder_cons (thn (h1 pins s σ H _ _ _ I r h) fun _ s1 ⟨σ1,H1,I1,q1⟩=> ?_)
  exact h2 pins s1 σ1 H1 _ _ Q I1 rr q1
def gTup (K:PySem.W.Frag) (n:Nat) (t:TGs):TG:=fun v σ H Q=>∃a xs,v= .ref a∧SqT K H a xs∧xs.length=n∧t xs σ H Q
theorem lU {es:List Expr} {k:Nat} {t:TGs} {n:Nat} (hc:X.calm=true) (h:PGs X es t)
 (hn:(assignEach es X.env).length=n:=by rfl) (hst:(assignEach es X.env).findIdx? (·.1)=none:=by rfl):PG X (.Tuple es k pos) (gTup X.K n t):=by
 intro pins s σ H v u Q I r hw
 obtain ⟨a,xs,e1,hq,hl,hw⟩:=hw
 subst e1
 cases r
 obtain ⟨its,rv,ht,hz⟩:=I.tuple hq
 refine assign_Tuple_tuple (I.ok.hd hc) ht (by simp [hn,←hl,rv.length]) hst fun h' hx=> ?_
 have I1:Inv X pins σ H {s with heap:=h'}:=I.kept (t':=s.toks) fun b o e=>hx b o (yE (Heap.lt_size e)) e
 exact h pins _ σ H xs _ Q I1 (by simpa using rv) hw
def gSub (to ti:TE) (t:TSet):TG:=fun v σ H Q=>to σ H fun o H1=>ti σ H1 fun i H2=>t o i v H2 fun H3=>Q σ H3
theorem qH {o i:Expr} {to ti:TE} {t:TSet} (ho:PE X o to) (hi:PE X i ti) (hs:PSet X t)
 (ha:∀v,assign (.Subscript o i pos) X.env v=(do
  let ov←holding [v] (eval o X.env)
  let iv←holding [v,ov] (eval i X.env)
  standAt pos
  holding [v,ov,iv] (setItem ov iv v)
  release [v,ov,iv] []):=by intro _;rfl):PG X (.Subscript o i pos) (gSub to ti t):=by
 intro pins s σ H v u Q I r h
 rw [ha]
 refine wpAny_bind (wpAny_holding (thn (ho pins s σ H _ I h) fun ov s1 ⟨x,H1,I1,r1,q1⟩=> ?_))
 refine wpAny_bind (wpAny_holding (thn (hi pins s1 σ H1 _ I1 q1) fun iv s2 ⟨y,H2,I2,r2,q2⟩=> ?_))
 refine wpAny_bind (wpAny_standAt (wpAny_bind (wpAny_holding (thn (hs pins s2 σ H2 x y v ov iv u _ I2 r1 r2 r q2) fun _ s3 ⟨H3,I3,q3⟩=> ?_))))
 exact wpAny_release ⟨σ,H3,I3,q3⟩
def tAsg (te:TE) (g:TG):TS:=fun D σ H=>te σ H fun x H1=>g x σ H1 D.nx
theorem lQ {tg e:Expr} {te:TE} {g:TG} (he:PE X e te) (hg:PG X tg g) (hs:swapsWithSole [tg] e pos.line X.env=pure false:=by rfl) (hw:swappedStores [tg] e X.env=pure none:=by rfl)
 (h1:(assignEach [tg] X.env).map (·.2)= [assign tg X.env]:=by rfl):PS X (.Assign [tg] e pos) (tAsg te g):=by
 intro pins s σ H D I h
 refine wpAny_Assign_stores (thn (he pins s σ H _ I h) fun v s1 ⟨x,H1,I1,r1,q1⟩=> ?_) hs hw
 rw [h1]
 exact thn (hg pins s1 σ H1 x v _ I1 r1 q1) fun _ s2 q=>q
theorem aA {i:Nat} {x:Str} {e:Expr} {te:TE} {pos':Pos} (hN:X.N.Nodup) (hi:X.N[i]?=some x) (hx:Loc X.env.scope x) (he:PE X e te) (hs:swapsWith e (some (.Name x pos')) pos.line X.env=pure false:=by rfl) (hf:X.fn x=true∨X.env.scope.names.lookup x=some .local:=by first|exact .inl rfl|exact .inr rfl|assumption):
 PS X (.Assign [.Name x pos'] e pos) (tAsg te (dn i)):=by
 intro pins s σ H D I h
 refine wpAny_Assign_Name (thn (he pins s σ H _ I h) fun v s1 ⟨y,H1,I1,r1,q1⟩=> ?_) hs
 exact eL I1 hN hi hx r1 (fun s2 I2=>⟨_,H1,I2,q1⟩) hf
def tPar (i j:Nat) (ta:TA):TS:=fun D σ H=>ta σ H fun vs H1=>∃v w,vs= [v,w]∧D.nx ((σ.set i (some v)).set j (some w)) H1
theorem vP {i j:Nat} {x y:Str} {a b:Expr} {ta:TA} {px py pt:Pos} {kt k2 pt2} (hc:X.calm=true) (hN:X.N.Nodup) (hi:X.N[i]?=some x) (hj:X.N[j]?=some y) (hij:i≠j)
 (hx:X.env.scope.names.lookup x=some .local) (hy:X.env.scope.names.lookup y=some .local) (ha:PA X [a,b] ta)
 (hw:swappedStores [.Tuple [.Name x px, .Name y py] kt pt] (.Tuple [a,b] k2 pt2) X.env=pure (some [x,y]))
 (hs:swapsWithSole [.Tuple [.Name x px, .Name y py] kt pt] (.Tuple [a,b] k2 pt2) pos.line X.env=pure false:=by rfl):
 PS X (.Assign [.Tuple [.Name x px, .Name y py] kt pt] (.Tuple [a,b] k2 pt2) pos) (tPar i j ta):=by
 intro pins s σ H D I h
 rw [exec_Assign_arm]
 refine wpAny_bind (wpAny_standAt ?_)
 rw [hs]
 refine wpAny_bind (wpAny_pure ?_)
 rw [if_neg (by decide)]
 refine wpAny_bind (Tuple_ (thn (ha _ pins s σ H _ I h) fun us s1 ⟨vs,H1,I1,r1,q1⟩=> ?_))
 obtain ⟨v,w,e1,q1⟩:=q1
 subst e1
 obtain ⟨u1,u2,rfl,rv,rw'⟩:∃u1 u2,us= [u1,u2]∧RelV v u1∧RelV w u2:=by
  cases r1 with
  |cons p q=>
   cases q with
   |cons p' q'=>
    cases q'
    exact ⟨_,_,rfl,p,p'⟩
 refine wpAny_newObj_type ?_ (by show 2≤sizeLine;decide)
 have I2:Inv X pins σ H1 {s1 with heap:=s1.heap.push {cls:= .type "tuple",data:= .seq [u1,u2].toArray}}:=I1.kept (t':=s1.toks) fun b o e=>Heap.get?_push_of_some _ e
 rw [hw]
 refine wpAny_bind (wpAny_pure ?_)
 show wpAny (model X.prog X.w) X.A (do rule "assign.swapped-stores";let items←unpackItems (.ref s1.heap.objs.size) 2 none;assignInOrder [fun v=>bindName X.env y v,fun v=>bindName X.env x v] items.reverse;pure Flow.next) _ _ _
 refine wpAny_bind (wpAny_rule (wpAny_bind (unpackItems_tuple (items:= #[u1,u2]) (I.ok.hd hc) (IsTup.new s1.heap _) fun h' hx'=> ?_)))
 have I3:=I2.kept (h':=h') (t':=s1.toks) fun b o e=>hx' b o (yE (Heap.lt_size e)) e
 show wpAny _ _ (assignInOrder [fun v=>bindName X.env y v,fun v=>bindName X.env x v] [u2,u1] >>=fun _=>pure Flow.next) _ _ _
 refine wpAny_bind (assignInOrder_cons (wpAny_bindName (eL I3 hN hj (.inl hy) rw' (fun s2 I4=> ?_) (.inr hy))))
 refine assignInOrder_cons (wpAny_bindName (eL I4 hN hi (.inl hx) rv (fun s3 I5=>assignInOrder_nil (wpAny_pure ?_)) (.inr hx)))
 rw [List.set_comm _ _ (Ne.symm hij)] at I5
 exact ⟨_,H1,I5,q1⟩
end
section
variable {X:Cx} {pos:Pos}
def pM (c:TT) (tb:TS):TS:=fun D σ H=>∃W:Nat→St→Hp→Prop,(∃m,W m σ H)∧∀m σ H,W m σ H→
 c σ H fun b H1=>if b=true then∃N:St→Hp→Prop,(∀σ' H',N σ' H'→∃m',m' < m∧W m' σ' H')∧tb {D with nx:=N,ct:=N,bk:=D.nx} σ H1 else D.nx σ H1
theorem jY {c:Expr} {body:List Stmt} {tc:TT} {tb:TS} (hp:PassesOwn (model X.prog X.w) X.A X.env X.xe) (hc:PT X c tc) (hb:PSs X body tb):PS X (.While c body [] pos) (pM tc tb):=by
 intro pins s σ H D I h
 obtain ⟨W,⟨m0,w0⟩,turn⟩:=h
 refine wpAny_While (codeAny_whileLoop (fun n s'=>∃σ' H',Inv X pins σ' H' s'∧W n σ' H') ?_ m0 ⟨σ,H,I,w0⟩)
 rintro n s1 ⟨σ1,H1,I1,w1⟩
 refine wpAny_passesOwn hp (thn (hc pins s1 σ1 H1 _ I1 (turn n σ1 H1 w1)) fun b s2 ⟨H2,I2,q2⟩=> ?_)
 cases b with
 |true=>
  obtain ⟨N,hN,q2⟩:=q2
  rw [if_pos rfl]
  refine wpAny_passesOwn hp (thn (hb pins s2 σ1 H2 _ I2 q2) fun f s3 q3=> ?_)
  cases f with
  |next=>
   obtain ⟨σ3,H3,I3,n3⟩:=q3
   obtain ⟨m',hm,w3⟩:=hN σ3 H3 n3
   exact ⟨m',hm,σ3,H3,I3,w3⟩
  |cont=>
   obtain ⟨σ3,H3,I3,n3⟩:=q3
   obtain ⟨m',hm,w3⟩:=hN σ3 H3 n3
   exact ⟨m',hm,σ3,H3,I3,w3⟩
  |brk=>exact q3
  |ret v=>exact q3
 |false=>
  rw [if_neg yI]
  exact wpAny_execs_nil ⟨σ1,H2,I2,q2⟩
end
structure It where
 go:Nat→Hp→Prop
 yld:Nat→Hp→V→Hp→Prop
 stop:Nat→Hp→Prop
def FpOk (X:Cx) (pins:List (Addr×Obj)) (H:Hp) (b:Addr):Prop:=
 H b=none∧b≠X.env.locals∧b∉X.fs∧(b∈X.ex∨X.s₀.heap.objs.size≤b)∧(∀x c,X.env.cells.lookup x=some c→c≠b)∧∀p∈X.pn++pins,p.1≠b
theorem Inv.fpOk {X:Cx} {pins:List (Addr×Obj)} {σ:St} {H H':Hp} {s:Shared} {b:Addr} (I:Inv X pins σ H s) (hb:s.heap.objs.size≤b) (hn:H' b=none):FpOk X pins H' b:=by
 refine ⟨hn,Nat.ne_of_gt (yB I.lt hb),I.nofs hb, .inr (yU I.sz hb),fun x c e z=> ?_,fun p hp z=> ?_⟩
 · obtain ⟨v,q⟩:=I.cell x c e
   exact absurd (yB q.lt (by rw [z];exact hb)) (Nat.lt_irrefl _)
 · exact absurd (yB (Heap.lt_size (I.pin p hp).1) (by rw [z];exact hb)) (Nat.lt_irrefl _)
structure Turn (P:Program) (w:World) (K:PySem.W.Frag) (tg:Expr) (J:It) (fp:List Addr) (it:Addr) (tn:Nat→Heap→Prop):Prop where
 mem:it∈fp
 obj:∀i h,tn i h→∀b∈fp,∃o,h.get? b=some o∧∀v,o.data≠ .cell v
 keep:∀i h h',tn i h→(∀b∈fp,∀o,h.get? b=some o→h'.get? b=some o)→tn i h'
 item:∀(X:Cx),X.prog=P→X.w=w→X.K=K→X.calm=true→∀(i:Nat) (pins:List (Addr×Obj)) (s:Shared) (σ:St) (H:Hp) (E:Value→Shared→Prop),Inv X pins σ H s→(∀b∈fp,FpOk X pins H b)→tn i s.heap→J.go i H→
  wpAny (model P w) X.A (pyNext (.ref it)) (fun r s1=>∃u,r=some u∧
   wpAny (model P w) X.A (letOwnedTupleGo tg (.ref it) u) (fun _ s2=>∃x H',Inv X pins σ H' s2∧RelV x u∧J.yld i H x H'∧tn (i+1) s2.heap∧∀b∈fp,H' b=none) E s1) E s
 done:∀(X:Cx),X.prog=P→X.w=w→X.K=K→X.calm=true→∀(i:Nat) (pins:List (Addr×Obj)) (s:Shared) (σ:St) (H:Hp) (E:Value→Shared→Prop),Inv X pins σ H s→(∀b∈fp,FpOk X pins H b)→tn i s.heap→J.stop i H→
  wpAny (model P w) X.A (pyNext (.ref it)) (fun r s1=>r=none∧Inv X pins σ H s1) E s
 self:∀(A:Around) (i:Nat) (s:Shared) (Q:Value→Shared→Prop) (E:Value→Shared→Prop),tn i s.heap→Q (.ref it) s→wpAny (model P w) A (pyIter (.ref it)) Q E s
abbrev TI:=St→Hp→(It→Hp→Prop)→Prop
def PIE (X:Cx) (pins:List (Addr×Obj)) (σ:St) (tg:Expr) (R:It→Hp→Prop) (itv:Value) (s2:Shared):Prop:=
 ∃(it:Addr) (fp:List Addr) (tn:Nat→Heap→Prop) (J:It) (H':Hp),itv= .ref it∧Inv X pins σ H' s2∧Turn X.prog X.w X.K tg J fp it tn∧tn 0 s2.heap∧(∀b∈fp,FpOk X pins H' b)∧R J H'
def PI (X:Cx) (tg iter:Expr) (wi:TI):Prop:=
 ∀(pins:List (Addr×Obj)) (s:Shared) (σ:St) (H:Hp) (R:It→Hp→Prop),Inv X pins σ H s→wi σ H R→
  wpAny (model X.prog X.w) X.A (eval iter X.env) (fun v s1=>wpAny (model X.prog X.w) X.A (pyIter v) (PIE X pins σ tg R) X.xe s1) X.xe s
theorem o6 {M:Model} {A:Around} {E:Value→Shared→Prop} {s:Shared} {tg:Expr} {it:Addr} {u:Value} {o:Obj} {n:String} {vs:Array Value} {Q:Unit→Shared→Prop} (ho:s.heap.get? it=some o) (hc:o.cls= .type n) (hd:o.data= .fields vs)
 (hn: ["enumerate","zip","dict_itemiterator","dict_reverseitemiterator","odict_iterator","itertools.zip_longest","itertools.pairwise"].contains n=false) (hQ:Q () s):wpAny M A (letOwnedTupleGo tg (.ref it) u) Q E s:=by
 unfold letOwnedTupleGo
 cases tg<;>first
  |exact wpAny_pure hQ
  |(cases u<;>first
     |exact wpAny_pure hQ
     |(refine wpAny_bind (wpAny_load ho ?_)
       rw [hc,hd]
       show wpAny M A (if (["enumerate","zip","dict_itemiterator","dict_reverseitemiterator","odict_iterator","itertools.zip_longest","itertools.pairwise"].contains n&&vs[0]?==some (rawInt _))=true then _ else _) Q E s
       rw [if_neg (by intro h;rw [hn,Bool.false_and] at h;cases h)]
       exact wpAny_pure hQ))
def Itl (K:PySem.W.Frag) (a:Addr):It:=
 ⟨fun i H=>∃xs x,SqL K H a xs∧xs[i]?=some x,fun i H x H'=>H'=H∧∀xs,SqL K H a xs→xs[i]?=some x,fun i H=>∃xs,SqL K H a xs∧xs.length≤i⟩
def Itt (K:PySem.W.Frag) (a:Addr):It:=
 ⟨fun i H=>∃xs x,SqT K H a xs∧xs[i]?=some x,fun i H x H'=>H'=H∧∀xs,SqT K H a xs→xs[i]?=some x,fun i H=>∃xs,SqT K H a xs∧xs.length≤i⟩
def Itr (lo:Int) (n:Nat):It:=⟨fun i _=>i < n,fun i H x H'=>H'=H∧x= .int (lo+i),fun i _=>n≤i⟩
theorem oF {P:Program} {w:World} {K:PySem.W.Frag} {tg:Expr} (a it:Addr):Turn P w K tg (Itl K a) [it] it (fun i h=>h.IsListIter it a i) where
 mem:=by simp
 obj:=fun i h st b hb=>by
  have e:b=it:=by simpa using hb
  subst e
  obtain ⟨o,e,c,d⟩:=st
  exact ⟨o,e,fun v z=>by rw [d] at z;cases z⟩
 keep:=fun i h h' st k=>st.at fun o e=>k it (by simp) o e
 item:=by
  intro X hP hw hK hc i pins s σ H E I hf st hg
  subst hP hw hK
  obtain ⟨xs,x,hq,hx⟩:=hg
  obtain ⟨its,rv,p,hz⟩:=I.list hq
  obtain ⟨u,hu,ru⟩:=rv.get hx
  obtain ⟨f0,f1,f2,f3,f4,f5⟩:=hf it (by simp)
  refine wpAny_pyNext_list_item st p.isList (x:=u) (by simpa using hu) fun h' st' sb=> ?_
  have I1:Inv X pins σ H {s with heap:=h'}:=I.turned (t':=s.toks) (fun b o hb e=>(sb.2 b hb).trans e) f0 f1 f3 f4 f5
  obtain ⟨o,e,c,d⟩:=id st'
  exact ⟨u,rfl,o6 (s:= {s with heap:=h'}) e c d (by decide) ⟨x,H,I1,ru,⟨rfl,fun ys hy=>by rw [I.list_inj hy hq];exact hx⟩,st',fun b hb=>(hf b hb).1⟩⟩
 done:=by
  intro X hP hw hK hc i pins s σ H E I hf st hg
  subst hP hw hK
  obtain ⟨xs,hq,hx⟩:=hg
  obtain ⟨its,rv,p,hz⟩:=I.list hq
  obtain ⟨f0,f1,f2,f3,f4,f5⟩:=hf it (by simp)
  have hl:=rv.length
  exact wpAny_pyNext_list_end (I.ok.hd hc) st p.isList (by simp;omega) fun h' eb=>⟨rfl,I.turned (t':=s.toks) (fun b o hb e=>eb b o hb e) f0 f1 f3 f4 f5⟩
 self:=fun _ _ _ _ _ st h=>wpAny_pyIter_listiter st h
theorem lG {P:Program} {w:World} {K:PySem.W.Frag} {tg:Expr} (a it:Addr):Turn P w K tg (Itt K a) [it] it (fun i h=>h.IsTupleIter it a i) where
 mem:=by simp
 obj:=fun i h st b hb=>by
  have e:b=it:=by simpa using hb
  subst e
  obtain ⟨o,e,c,d⟩:=st
  exact ⟨o,e,fun v z=>by rw [d] at z;cases z⟩
 keep:=fun i h h' st k=>st.at fun o e=>k it (by simp) o e
 item:=by
  intro X hP hw hK hc i pins s σ H E I hf st hg
  subst hP hw hK
  obtain ⟨xs,x,hq,hx⟩:=hg
  obtain ⟨its,rv,p,hz⟩:=I.tuple hq
  obtain ⟨u,hu,ru⟩:=rv.get hx
  obtain ⟨f0,f1,f2,f3,f4,f5⟩:=hf it (by simp)
  refine wpAny_pyNext_tuple_item st (show s.heap.IsTuple a its.toArray from p) (x:=u) (by simpa using hu) fun h' st' sb=> ?_
  have I1:Inv X pins σ H {s with heap:=h'}:=I.turned (t':=s.toks) (fun b o hb e=>(sb.2 b hb).trans e) f0 f1 f3 f4 f5
  obtain ⟨o,e,c,d⟩:=id st'
  exact ⟨u,rfl,o6 (s:= {s with heap:=h'}) e c d (by decide) ⟨x,H,I1,ru,⟨rfl,fun ys hy=>by rw [I.tuple_inj hy hq];exact hx⟩,st',fun b hb=>(hf b hb).1⟩⟩
 done:=by
  intro X hP hw hK hc i pins s σ H E I hf st hg
  subst hP hw hK
  obtain ⟨xs,hq,hx⟩:=hg
  obtain ⟨its,rv,p,hz⟩:=I.tuple hq
  obtain ⟨f0,f1,f2,f3,f4,f5⟩:=hf it (by simp)
  have hl:=rv.length
  exact wpAny_pyNext_tuple_end (I.ok.hd hc) st (show s.heap.IsTuple a its.toArray from p) (by simp;omega) fun h' eb=>⟨rfl,I.turned (t':=s.toks) (fun b o hb e=>eb b o hb e) f0 f1 f3 f4 f5⟩
 self:=fun _ _ _ _ _ st h=>wpAny_pyIter_tupleiter st h
theorem lH {P:Program} {w:World} {K:PySem.W.Frag} {tg:Expr} (it:Addr) (lo:Int) (n:Nat):Turn P w K tg (Itr lo n) [it] it (fun i h=>IsRangeIter h it (lo+(i:Nat)*1) ((n:Int) - (i:Nat)) 1) where
 mem:=by simp
 obj:=fun i h st b hb=>by
  have e:b=it:=by simpa using hb
  subst e
  exact ⟨_,st,fun v z=>by
   have z':Data.fields _=Data.cell v:=z
   cases z'⟩
 keep:=fun i h h' st k=>k it (by simp) _ st
 item:=by
  intro X hP hw hK hc i pins s σ H E I hf st hg
  subst hP hw hK
  obtain ⟨f0,f1,f2,f3,f4,f5⟩:=hf it (by simp)
  have W:=Walks.range (prog:=X.prog) (w:=X.w) (I.ok.hd hc) it lo 1 n
  refine W.item i s _ _ hg st fun v h' tk hv st' kk=> ?_
  obtain ⟨t,rfl⟩:=hv
  have I1:Inv X pins σ H {s with heap:=h',toks:=tk}:=I.turned (fun b o hb e=>kk b o (by simpa using hb) e) f0 f1 f3 f4 f5
  refine ⟨_,rfl,o6 (s:= {s with heap:=h',toks:=tk}) (n:="range_iterator") st' rfl rfl (by decide) ⟨.int (lo+i),H,I1,⟨t,?_⟩,⟨rfl,rfl⟩,st',fun b hb=>(hf b hb).1⟩⟩
  rw [Int.mul_one]
 done:=by
  intro X hP hw hK hc i pins s σ H E I hf st hg
  subst hP hw hK
  obtain ⟨f0,f1,f2,f3,f4,f5⟩:=hf it (by simp)
  exact wpAny_pyNext_range_end (I.ok.hd hc) st (by have:n≤i:=hg;omega) fun h' eb=>⟨rfl,I.turned (t':=s.toks) (fun b o hb e=>eb b o hb e) f0 f1 f3 f4 f5⟩
 self:=fun _ _ _ _ _ st h=>wpAny_pyIter_rangeiter st h
open PySem PySem.Spec PyProof.Rows
section
variable {X:Cx} {tg:Expr}
def xU (K:PySem.W.Frag) (tl:TE):TI:=fun σ H R=>tl σ H fun x H1=>∃a,x= .ref a∧(∃xs,SqL K H1 a xs)∧R (Itl K a) H1
def iTup (K:PySem.W.Frag) (tl:TE):TI:=fun σ H R=>tl σ H fun x H1=>∃a,x= .ref a∧(∃xs,SqT K H1 a xs)∧R (Itt K a) H1
theorem gg {l:Expr} {tl:TE} (hl:PE X l tl):PI X tg l (xU X.K tl):=by
 intro pins s σ H R I h
 refine thn (hl pins s σ H _ I h) fun v s1 ⟨x,H1,I1,r1,q1⟩=> ?_
 obtain ⟨a,e,⟨xs,hq⟩,q⟩:=q1
 subst e
 cases r1
 obtain ⟨its,rv,p,hz⟩:=I1.list hq
 refine wpAny_pyIter_list p.isList ?_
 refine ⟨s1.heap.objs.size,[s1.heap.objs.size],_,_,H1,rfl,I1.kept (t':=s1.toks) fun b o e=>Heap.get?_push_of_some _ e,oF a _,⟨_,Heap.get?_push_size _ rfl,rfl,rfl⟩,fun b hb=> ?_,q⟩
 have e:b=s1.heap.objs.size:=by simpa using hb
 subst e
 exact I1.fpOk (yl _) (I1.hok.fresh (yl _))
theorem fk {l:Expr} {tl:TE} (hl:PE X l tl):PI X tg l (iTup X.K tl):=by
 intro pins s σ H R I h
 refine thn (hl pins s σ H _ I h) fun v s1 ⟨x,H1,I1,r1,q1⟩=> ?_
 obtain ⟨a,e,⟨xs,hq⟩,q⟩:=q1
 subst e
 cases r1
 obtain ⟨its,rv,p,hz⟩:=I1.tuple hq
 refine wpAny_pyIter_tuple (show s1.heap.IsTuple a its.toArray from p) ?_
 refine ⟨s1.heap.objs.size,[s1.heap.objs.size],_,_,H1,rfl,I1.kept (t':=s1.toks) fun b o e=>Heap.get?_push_of_some _ e,lG a _,⟨_,Heap.get?_push_size _ rfl,rfl,rfl⟩,fun b hb=> ?_,q⟩
 have e:b=s1.heap.objs.size:=by simpa using hb
 subst e
 exact I1.fpOk (yl _) (I1.hok.fresh (yl _))
theorem qu {pins:List (Addr×Obj)} {σ:St} {H:Hp} {s:Shared} {R:It→Hp→Prop} {E:Value→Shared→Prop} {lo hi:Int} {t u v:Tok} {tk:Nat} (I:Inv X pins σ H s) (h1:-(2^62)≤lo) (h2:lo < 2^62) (h3:-(2^62)≤hi) (h4:hi < 2^62)
 (q:R (Itr lo (hi - lo).toNat) H):wpAny (model X.prog X.w) X.A (pyIter (.ref s.heap.objs.size)) (PIE X pins σ tg R) E {s with heap:=s.heap.push {cls:= .type "range",data:= .fields #[.int lo t, .int hi u, .int 1 v]},toks:=tk}:=by
 refine wpAny_pyIter_range (IsRange.new ..) (small_one h1 h2 h3 h4) ?_
 have I1:Inv X pins σ H {s with heap:=s.heap.push {cls:= .type "range",data:= .fields #[.int lo t, .int hi u, .int 1 v]},toks:=tk}:=I.kept fun b o e=>Heap.get?_push_of_some _ e
 refine ⟨(s.heap.push {cls:= .type "range",data:= .fields #[.int lo t, .int hi u, .int 1 v]}).objs.size,[(s.heap.push {cls:= .type "range",data:= .fields #[.int lo t, .int hi u, .int 1 v]}).objs.size],_,_,H,rfl,
  I1.kept (t':=tk) fun b o e=>Heap.get?_push_of_some _ e,lH _ lo (hi - lo).toNat,?_,fun b hb=> ?_,q⟩
 · have e1:lo+((0:Nat):Int)*1=lo:=by simp
   have e2:(((hi - lo).toNat:Nat):Int) - ((0:Nat):Int)=Builtin.Range.rangeSize lo hi 1:=by rw [rangeSize_one];split<;>omega
   show IsRangeIter _ _ (lo+((0:Nat):Int)*1) ((((hi - lo).toNat:Nat):Int) - ((0:Nat):Int)) 1
   rw [e1,e2]
   exact Heap.get?_push_size _ rfl
 · have e:b=(s.heap.push {cls:= .type "range",data:= .fields #[.int lo t, .int hi u, .int 1 v]}).objs.size:=by simpa using hb
   subst e
   exact I1.fpOk (yl _) (I1.hok.fresh (yl _))
def xT (ta:TA):TI:=fun σ H R=>ta σ H fun vs H1=>∃j:Int,vs= [.int j]∧ -(2^62)≤j∧j < 2^62∧R (Itr 0 j.toNat) H1
theorem bZ {a:Expr} {ta:TA} {p pos:Pos} (hg:Gl X "range") (hm:X.mg "range"=none) (ha:PA X [a] ta) (hs:starEach [a] X.env= [(false,eval a X.env)]:=by rfl):PI X tg (.Call (.Name "range" p) [a] [] pos) (xT ta):=by
 intro pins s σ H R I h
 refine Call_ (ft I hg hm boot_range (PyProof.Rows.callWith_type1 (thn (ha pos pins s σ H _ I h) fun us s1 ⟨vs,H1,I1,r1,q1⟩=> ?_) hs rfl))
 obtain ⟨j,e,q1,q2,q⟩:=q1
 subst e
 cases r1 with
 |cons r rr=>
  cases rr
  obtain ⟨t,rfl⟩:=r
  exact call_range_1 (qu I1 (by omega) (by omega) q1 q2 (by simpa using q))
def tFor (wi:TI) (g:TG) (tb:TS):TS:=fun D σ H=>wi σ H fun J H1=>∃W:Nat→Nat→St→Hp→Prop,(∃m,W 0 m σ H1)∧∀i m σ H,W i m σ H→
 (J.stop i H∧D.nx σ H)∨(J.go i H∧∃N:St→Hp→Prop,(∀σ' H',N σ' H'→∃m',m' < m∧W (i+1) m' σ' H')∧∀x H',J.yld i H x H'→g x σ H' fun σ2 H2=>tb {D with nx:=N,ct:=N,bk:=D.nx} σ2 H2)
noncomputable def gZ (fp:List Addr) (h:Heap):List (Addr×Obj):=fp.filterMap fun b=>(h.get? b).map fun o=>(b,o)
theorem cX {fp:List Addr} {h:Heap} {b:Addr} {o:Obj} (hb:b∈fp) (e:h.get? b=some o):(b,o)∈gZ fp h:=List.mem_filterMap.mpr ⟨b,hb,by rw [e];rfl⟩
theorem oY {fp:List Addr} {h:Heap} {p:Addr×Obj} (hp:p∈gZ fp h):p.1∈fp∧h.get? p.1=some p.2:=by
 obtain ⟨b,hb,e⟩:=List.mem_filterMap.mp hp
 cases q:h.get? b with
 |none=>rw [q] at e;cases e
 |some o=>
  rw [q] at e
  have e':(b,o)=p:=yP e
  subst e'
  exact ⟨hb,q⟩
theorem Inv.pinned {pins:List (Addr×Obj)} {σ:St} {H:Hp} {s:Shared} {fp:List Addr} (I:Inv X pins σ H s) (hf:∀b∈fp,FpOk X pins H b) (ho:∀b∈fp,∃o,s.heap.get? b=some o∧∀v,o.data≠ .cell v):Inv X (pins++gZ fp s.heap) σ H s:=
 I.pins_of fun p hp=>(yx.mp hp).elim (fun z=>I.pin p (yX _ z)) fun z=>by
  obtain ⟨hb,e⟩:=oY z
  obtain ⟨f0,f1,f2,_⟩:=hf p.1 hb
  obtain ⟨o,e',d⟩:=ho p.1 hb
  rw [e] at e';cases e'
  exact ⟨e,f0,f1,f2,d⟩
theorem Inv.unpinned {pins pl:List (Addr×Obj)} {σ:St} {H:Hp} {s:Shared} (I:Inv X (pins++pl) σ H s):Inv X pins σ H s:=I.pins_of fun p hp=>I.pin p (yX _ (List.mem_append_left _ hp))
theorem fj {iter:Expr} {body:List Stmt} {wi:TI} {g:TG} {tb:TS} {pos:Pos} (hp:PassesOwn (model X.prog X.w) X.A X.env X.xe) (hc:X.calm=true) (hi:PI X tg iter wi) (hg:PG X tg g) (hb:PSs X body tb)
 (hs:∀x,foldedSetIterable iter X.env x=pure x:=by intro _;rfl):PS X (.For tg iter body [] pos) (tFor wi g tb):=by
 intro pins s σ H D I h
 refine wpAny_For (thn (hi pins s σ H _ I h) fun v s1 h1=>thn h1 fun itv s2 h2=> ?_) hs
 obtain ⟨it,fp,tn,J,H2,e,I2,T,st2,f2,W,⟨m0,w0⟩,turn⟩:=h2
 subst e
 have stat:∀ {H':Hp},(∀b∈fp,H' b=none)→∀b∈fp,FpOk X pins H' b:=fun hn b hb=>⟨hn b hb,(f2 b hb).2⟩
 refine codeAny_forLoop_any (fun n s'=>∃i σ' H',Inv X pins σ' H' s'∧tn i s'.heap∧(∀b∈fp,H' b=none)∧W i n σ' H') ?_ m0 ⟨0,σ,H2,I2,st2,fun b hb=>(f2 b hb).1,w0⟩
 rintro n s3 ⟨i,σ3,H3,I3,st3,fr3,w3⟩
 rcases turn i n σ3 H3 w3 with ⟨stop,qn⟩|⟨go,N,hN,step⟩
 · refine wpAny_passesOwn hp (thn (T.done X rfl rfl rfl hc i pins s3 σ3 H3 X.xe I3 (stat fr3) st3 stop) fun r s4 ⟨hr,I4⟩=> ?_)
   subst hr
   exact wpAny_execs_nil ⟨σ3,H3,I4,qn⟩
 · refine wpAny_passesOwn hp (thn (T.item X rfl rfl rfl hc i pins s3 σ3 H3 X.xe I3 (stat fr3) st3 go) fun r s4 ⟨u,hr,h4⟩=> ?_)
   subst hr
   refine wpAny_passesOwn hp (thn h4 fun _ s5 ⟨x,H5,I5,r5,y5,st5,fr5⟩=> ?_)
   have I5':=I5.pinned (stat fr5) (T.obj _ _ st5)
   refine wpAny_passesOwn hp (thn (hg _ s5 σ3 H5 x u _ I5' r5 (step x H5 y5)) fun _ s6 ⟨σ6,H6,I6,q6⟩=> ?_)
   refine wpAny_passesOwn hp (thn (hb _ s6 σ6 H6 _ I6 q6) fun f s7 q7=> ?_)
   have again:∀ {σ7:St} {H7:Hp},Inv X (pins++gZ fp s5.heap) σ7 H7 s7→N σ7 H7→∃m,m < n∧∃i σ' H',Inv X pins σ' H' s7∧tn i s7.heap∧(∀b∈fp,H' b=none)∧W i m σ' H':=fun {σ7 H7} I7 n7=>by
    obtain ⟨m',hm,w7⟩:=hN σ7 H7 n7
    refine ⟨m',hm,i+1,σ7,H7,I7.unpinned,T.keep _ _ _ st5 fun b hb o e=>(I7.pin (b,o) (yX _ (yX _ (cX hb e)))).1,fun b hb=> ?_,w7⟩
    obtain ⟨o,e,d⟩:=T.obj _ _ st5 b hb
    exact (I7.pin (b,o) (yX _ (yX _ (cX hb e)))).2.1
   cases f with
   |next=>obtain ⟨σ7,H7,I7,n7⟩:=q7;exact again I7 n7
   |cont=>obtain ⟨σ7,H7,I7,n7⟩:=q7;exact again I7 n7
   |brk=>obtain ⟨σ7,H7,I7,q7⟩:=q7;exact ⟨σ7,H7,I7.unpinned,q7⟩
   |ret v=>obtain ⟨x7,σ7,H7,I7,r7,q7⟩:=q7;exact ⟨x7,σ7,H7,I7.unpinned,r7,q7⟩
end
theorem kY {K:PySem.W.Frag} {a:Addr} {xs:List V} {g:TG} {tb:TS} {D:Ends} {σ:St} {H:Hp} (Pv:Nat→St→Hp→Prop) (h0:Pv 0 σ H) (hl:∀i σ H,i≤xs.length→Pv i σ H→SqL K H a xs)
 (hs:∀i x σ H,xs[i]?=some x→Pv i σ H→g x σ H fun σ2 H2=>tb {D with nx:=Pv (i+1),ct:=Pv (i+1),bk:=D.nx} σ2 H2) (hd:∀σ H,Pv xs.length σ H→D.nx σ H):
 ∃W:Nat→Nat→St→Hp→Prop,(∃m,W 0 m σ H)∧∀i m σ H,W i m σ H→
  ((Itl K a).stop i H∧D.nx σ H)∨((Itl K a).go i H∧∃N:St→Hp→Prop,(∀σ' H',N σ' H'→∃m',m' < m∧W (i+1) m' σ' H')∧∀x H',(Itl K a).yld i H x H'→g x σ H' fun σ2 H2=>tb {D with nx:=N,ct:=N,bk:=D.nx} σ2 H2):=by
 refine ⟨fun i m σ H=>m=xs.length - i∧i≤xs.length∧Pv i σ H,⟨xs.length,by simp,yO _,h0⟩,?_⟩
 rintro i m σ H ⟨rfl,hi,p⟩
 have q:=hl i σ H hi p
 by_cases hlt:i < xs.length
 · refine .inr ⟨⟨xs,xs[i],q,by simp [hlt]⟩,Pv (i+1),fun σ' H' p'=>⟨xs.length - (i+1),by omega,rfl,hlt,p'⟩,fun x H' y=> ?_⟩
   obtain ⟨e,y⟩:=y
   subst e
   exact hs i x σ _ (y xs q) p
 · have e:i=xs.length:=by omega
   subst e
   exact .inl ⟨⟨xs,q,yl _⟩,hd σ H p⟩
theorem ut {K:PySem.W.Frag} {a:Addr} {xs:List V} {g:TG} {tb:TS} {D:Ends} {σ:St} {H:Hp} (Pv:Nat→St→Hp→Prop) (h0:Pv 0 σ H) (hl:∀i σ H,i≤xs.length→Pv i σ H→SqT K H a xs)
 (hs:∀i x σ H,xs[i]?=some x→Pv i σ H→g x σ H fun σ2 H2=>tb {D with nx:=Pv (i+1),ct:=Pv (i+1),bk:=D.nx} σ2 H2) (hd:∀σ H,Pv xs.length σ H→D.nx σ H):
 ∃W:Nat→Nat→St→Hp→Prop,(∃m,W 0 m σ H)∧∀i m σ H,W i m σ H→
  ((Itt K a).stop i H∧D.nx σ H)∨((Itt K a).go i H∧∃N:St→Hp→Prop,(∀σ' H',N σ' H'→∃m',m' < m∧W (i+1) m' σ' H')∧∀x H',(Itt K a).yld i H x H'→g x σ H' fun σ2 H2=>tb {D with nx:=N,ct:=N,bk:=D.nx} σ2 H2):=by
 refine ⟨fun i m σ H=>m=xs.length - i∧i≤xs.length∧Pv i σ H,⟨xs.length,by simp,yO _,h0⟩,?_⟩
 rintro i m σ H ⟨rfl,hi,p⟩
 have q:=hl i σ H hi p
 by_cases hlt:i < xs.length
 · refine .inr ⟨⟨xs,xs[i],q,by simp [hlt]⟩,Pv (i+1),fun σ' H' p'=>⟨xs.length - (i+1),by omega,rfl,hlt,p'⟩,fun x H' y=> ?_⟩
   obtain ⟨e,y⟩:=y
   subst e
   exact hs i x σ _ (y xs q) p
 · have e:i=xs.length:=by omega
   subst e
   exact .inl ⟨⟨xs,q,yl _⟩,hd σ H p⟩
theorem fz {lo:Int} {n:Nat} {g:TG} {tb:TS} {D:Ends} {σ:St} {H:Hp} (Pv:Nat→St→Hp→Prop) (h0:Pv 0 σ H)
 (hs:∀i σ H,i < n→Pv i σ H→g (.int (lo+i)) σ H fun σ2 H2=>tb {D with nx:=Pv (i+1),ct:=Pv (i+1),bk:=D.nx} σ2 H2) (hd:∀σ H,Pv n σ H→D.nx σ H):
 ∃W:Nat→Nat→St→Hp→Prop,(∃m,W 0 m σ H)∧∀i m σ H,W i m σ H→
  ((Itr lo n).stop i H∧D.nx σ H)∨((Itr lo n).go i H∧∃N:St→Hp→Prop,(∀σ' H',N σ' H'→∃m',m' < m∧W (i+1) m' σ' H')∧∀x H',(Itr lo n).yld i H x H'→g x σ H' fun σ2 H2=>tb {D with nx:=N,ct:=N,bk:=D.nx} σ2 H2):=by
 refine ⟨fun i m σ H=>m=n - i∧i≤n∧Pv i σ H,⟨n,by simp,yO _,h0⟩,?_⟩
 rintro i m σ H ⟨rfl,hi,p⟩
 by_cases hlt:i < n
 · refine .inr ⟨hlt,Pv (i+1),fun σ' H' p'=>⟨n - (i+1),by omega,rfl,hlt,p'⟩,fun x H' y=> ?_⟩
   obtain ⟨e,y⟩:=y
   subst e y
   exact hs i σ _ hlt p
 · have e:i=n:=by omega
   subst e
   exact .inl ⟨yl _,hd σ H p⟩
theorem jL {c:TT} {tb:TS} {D:Ends} {σ:St} {H:Hp} (Pv:St→Hp→Prop) (μ:St→Hp→Nat) (h0:Pv σ H)
 (hs:∀σ H,Pv σ H→c σ H fun b H1=>if b=true then tb {D with nx:=fun σ' H'=>Pv σ' H'∧μ σ' H' < μ σ H,ct:=fun σ' H'=>Pv σ' H'∧μ σ' H' < μ σ H,bk:=D.nx} σ H1 else D.nx σ H1)
 (mono:∀σ H Q Q',(∀b H1,Q b H1→Q' b H1)→c σ H Q→c σ H Q'):pM c tb D σ H:=by
 refine ⟨fun m σ H=>m=μ σ H∧Pv σ H,⟨_,rfl,h0⟩,?_⟩
 rintro m σ H ⟨rfl,p⟩
 refine mono σ H _ _ (fun b H1 q=> ?_) (hs σ H p)
 cases b with
 |true=>exact ⟨_,fun σ' H' ⟨p',l⟩=>⟨_,l,rfl,p'⟩,q⟩
 |false=>exact q
open PySem PySem.Spec PyProof.Rows
abbrev R2:=V→V→Hp→VK→Prop
def OpR (X:Cx) (f:Value→Value→Sem Value) (r:R2):Prop:=
 ∀(pins:List (Addr×Obj)) (s:Shared) (σ:St) (H:Hp) (x y:V) (v u:Value) (Q:VK),Inv X pins σ H s→RelV x v→RelV y u→r x y H Q→
  wpAny (model X.prog X.w) X.A (f v u) (EP X pins σ Q) X.xe s
def UnR (X:Cx) (f:Value→Sem Value) (r:V→Hp→VK→Prop):Prop:=
 ∀(pins:List (Addr×Obj)) (s:Shared) (σ:St) (H:Hp) (x:V) (v:Value) (Q:VK),Inv X pins σ H s→RelV x v→r x H Q→
  wpAny (model X.prog X.w) X.A (f v) (EP X pins σ Q) X.xe s
def ci (X:Cx) (f:Value) (r:List V→Hp→VK→Prop):Prop:=
 ∀(pins:List (Addr×Obj)) (s:Shared) (σ:St) (H:Hp) (xs:List V) (us:List Value) (Q:VK),Inv X pins σ H s→Vals xs us→r xs H Q→
  wpAny (model X.prog X.w) X.A (call f us) (EP X pins σ Q) X.xe s
def tOp (r:R2) (ta tb:TE):TE:=fun σ H Q=>ta σ H fun x H1=>tb σ H1 fun y H2=>r x y H2 Q
def tUn (r:V→Hp→VK→Prop) (ta:TE):TE:=fun σ H Q=>ta σ H fun x H1=>r x H1 Q
def rI (C:Int→Int→Prop) (g:Int→Int→V):R2:=fun x y H Q=>∃i j,x= .int i∧y= .int j∧C i j∧Q (g i j) H
def rI0 (g:Int→Int→V):R2:=fun x y H Q=>∃i j,x= .int i∧y= .int j∧Q (g i j) H
def rU (g:Int→V):V→Hp→VK→Prop:=fun x H Q=>∃i,x= .int i∧Q (g i) H
section
variable {X:Cx} {a b c:Expr} {ta tb tc:TE} {pos:Pos}
theorem binT (ha:PE X a ta) (hb:PE X b tb) {pins:List (Addr×Obj)} {s:Shared} {σ:St} {H:Hp} {R:V→V→Hp→Prop} (I:Inv X pins σ H s)
 (h:ta σ H fun x H1=>tb σ H1 fun y H2=>R x y H2) {Q:Value→Shared→Prop} {f:Value→Value→Sem Value}
 (hf:∀v u s2 x y H2,Inv X pins σ H2 s2→RelV x v→RelV y u→R x y H2→wpAny (model X.prog X.w) X.A (f v u) Q X.xe s2):
 wpAny (model X.prog X.w) X.A (eval a X.env) (fun v s₁=>wpAny (model X.prog X.w) X.A (eval b X.env) (fun u s₂=>wpAny (model X.prog X.w) X.A (f v u) Q X.xe s₂) X.xe s₁) X.xe s:=by
 refine thn (ha pins s σ H _ I h) fun v s1 ⟨x,H1,I1,r1,q1⟩=> ?_
 refine thn (hb pins s1 σ H1 _ I1 q1) fun u s2 ⟨y,H2,I2,r2,q2⟩=> ?_
 exact hf v u s2 x y H2 I2 r1 r2 q2
theorem aB {op:Operator} {r:R2} (ho:OpR X (binaryOp op) r) (ha:PE X a ta) (hb:PE X b tb):PE X (.BinOp a op b pos) (tOp r ta tb):=by
 intro pins s σ H Q I h
 exact wpAny_BinOp (binT ha hb I h fun v u s2 x y H2 I2 rx ry q=>ho pins s2 σ H2 x y v u Q I2 rx ry q)
theorem nn {op:UnaryOp} {r:V→Hp→VK→Prop} (ho:UnR X (unaryOp op) r) (ha:PE X a ta):PE X (.UnaryOp op a pos) (tUn r ta):=by
 intro pins s σ H Q I h
 exact UnaryOp_ (thn (ha pins s σ H _ I h) fun v s1 ⟨x,H1,I1,r1,q1⟩=>ho pins s1 σ H1 x v Q I1 r1 q1)
theorem opI {f:Value→Value→Sem Value} {C:Int→Int→Prop} {g:Int→Int→Int}
 (rule:∀(i j:Int) (t u:Tok) (s:Shared) (Q:Value→Shared→Prop) (E:Value→Shared→Prop),C i j→Q (.int (g i j) s.toks) {s with toks:=s.toks+1}→wpAny (model X.prog X.w) X.A (f (.int i t) (.int j u)) Q E s):
 OpR X f (rI C fun i j=> .int (g i j)):=by
 intro pins s σ H x y v u Q I rx ry h
 obtain ⟨i,j,rfl,rfl,hc,q⟩:=h
 obtain ⟨t,rfl⟩:=rx
 obtain ⟨t',rfl⟩:=ry
 exact rule i j t t' s _ _ hc ⟨.int (g i j),H,I.tok _,⟨_,rfl⟩,q⟩
theorem opI0 {f:Value→Value→Sem Value} {g:Int→Int→Int}
 (rule:∀(i j:Int) (t u:Tok) (s:Shared) (Q:Value→Shared→Prop) (E:Value→Shared→Prop),Q (.int (g i j) s.toks) {s with toks:=s.toks+1}→wpAny (model X.prog X.w) X.A (f (.int i t) (.int j u)) Q E s):
 OpR X f (rI0 fun i j=> .int (g i j)):=by
 intro pins s σ H x y v u Q I rx ry h
 obtain ⟨i,j,rfl,rfl,q⟩:=h
 obtain ⟨t,rfl⟩:=rx
 obtain ⟨t',rfl⟩:=ry
 exact rule i j t t' s _ _ ⟨.int (g i j),H,I.tok _,⟨_,rfl⟩,q⟩
theorem opB0 {f:Value→Value→Sem Value} {g:Int→Int→Bool}
 (rule:∀(i j:Int) (t u:Tok) (s:Shared) (Q:Value→Shared→Prop) (E:Value→Shared→Prop),Q (.bool (g i j)) s→wpAny (model X.prog X.w) X.A (f (.int i t) (.int j u)) Q E s):
 OpR X f (rI0 fun i j=> .bl (g i j)):=by
 intro pins s σ H x y v u Q I rx ry h
 obtain ⟨i,j,rfl,rfl,q⟩:=h
 obtain ⟨t,rfl⟩:=rx
 obtain ⟨t',rfl⟩:=ry
 exact rule i j t t' s _ _ ⟨.bl (g i j),H,I,rfl,q⟩
def CDiv (i j:Int):Prop:=0 < j∧j < 1073741824
def CPow (i j:Int):Prop:=0≤j∧j≤1000000∧i.natAbs < 2^64
def CMul (i j:Int):Prop:=(-(2^64) < i∧i < 2^64)∨(-(2^64) < j∧j < 2^64)
theorem CMul.ok {i j:Int} (h:CMul i j):IntMulOk i j:=by
 rcases h with ⟨h1,h2⟩|⟨h1,h2⟩
 · exact .of_left (intBits_le_64 h1 h2)
 · exact .of_right (intBits_le_64 h1 h2)
theorem bU:OpR X (binaryOp .Add) (rI0 fun i j=> .int (i+j)):=opI0 fun _ _ _ _ _ _ _ q=>add_int q
theorem cV:OpR X (binaryOp .Sub) (rI0 fun i j=> .int (i - j)):=opI0 fun _ _ _ _ _ _ _ q=>sub_int q
theorem fm:OpR X (binaryOp .Mult) (rI CMul fun i j=> .int (i*j)):=opI fun _ _ _ _ _ _ _ hc q=>mul_int q hc.ok
theorem tS:OpR X (binaryOp .FloorDiv) (rI CDiv fun i j=> .int (i / j)):=opI fun i j _ _ _ _ _ hc q=>by
 have h1:(0:Int) < j:=hc.1
 have h2:j < 1073741824:=hc.2
 exact floordiv_int (by omega) (by rw [Int.fdiv_eq_ediv_of_nonneg i (by omega)];exact q) (.inl (PyProof.noPylong_small (by omega)))
theorem cB:OpR X (binaryOp .Mod) (rI (fun _ j=>0 < j) fun i j=> .int (i%j)):=opI fun i j _ _ _ _ _ hc q=>by
 have h1:(0:Int) < j:=hc
 exact mod_int' (by omega) (by rw [Int.fmod_eq_emod_of_nonneg i (by omega)];exact q)
theorem tR:OpR X (binaryOp .Mod) (rI (fun _ j=>j≠0) fun i j=> .int (i.fmod j)):=opI fun _ _ _ _ _ _ _ hc q=>mod_int' hc q
theorem jk:OpR X (binaryOp .Pow) (rI CPow fun i j=> .int (i^j.toNat)):=opI fun _ _ _ _ _ _ _ hc q=>pow_int_small hc.1 hc.2.1 hc.2.2 q
theorem unI {f:Value→Sem Value} {g:Int→Int}
 (rule:∀(i:Int) (t:Tok) (s:Shared) (Q:Value→Shared→Prop) (E:Value→Shared→Prop),Q (.int (g i) s.toks) {s with toks:=s.toks+1}→wpAny (model X.prog X.w) X.A (f (.int i t)) Q E s):
 UnR X f (rU fun i=> .int (g i)):=by
 intro pins s σ H x v Q I rx h
 obtain ⟨i,rfl,q⟩:=h
 obtain ⟨t,rfl⟩:=rx
 exact rule i t s _ _ ⟨.int (g i),H,I.tok _,⟨_,rfl⟩,q⟩
theorem iZ:UnR X (unaryOp .USub) (rU fun i=> .int (-i)):=unI fun _ _ _ _ _ q=>neg_int q
end
noncomputable def scal:V→V→Bool
 | .non, .non=>true| .non, .int _=>true| .int _, .non=>true| .non, .bl _=>true| .bl _, .non=>true| .non, .str _=>true| .str _, .non=>true
 | .int _, .int _=>true| .bl _, .bl _=>true| .str _, .str _=>true| .byt _, .byt _=>true
 | .int _, .str _=>true| .str _, .int _=>true| .bl _, .str _=>true| .str _, .bl _=>true
 |_,_=>false
def rEq:R2:=fun x y H Q=>scal x y=true∧Q (.bl (decide (x=y))) H
def rNe:R2:=fun x y H Q=>scal x y=true∧Q (.bl (!decide (x=y))) H
theorem oo {i j:Int}:decide (V.int i=V.int j)=(i==j):=by
 rw [zc]
 simp
theorem rW {i j:Bool}:decide (V.bl i=V.bl j)=(i==j):=by
 rw [zc]
 simp
theorem om {i j:Str}:decide (V.str i=V.str j)=(i==j):=by
 rw [zc]
 simp
theorem oq {i j:Array UInt8}:decide (V.byt i=V.byt j)=(i.toList==j.toList):=by
 rw [zc]
 cases i
 cases j
 simp
section
variable {X:Cx} {a b c:Expr} {ta tb tc:TE} {pos:Pos}
theorem aP {pins:List (Addr×Obj)} {σ:St} {H:Hp} {s:Shared} {Q:VK} {k k':Bool} (I:Inv X pins σ H s) (q:Q (.bl k) H) (e:k=k'):EP X pins σ Q (.bool k') s:=by
 subst e
 exact ⟨.bl k,H,I,rfl,q⟩
theorem cf:OpR X (compareOp .Eq) rEq:=by
 intro pins s σ H x y v u Q I rx ry h
 obtain ⟨hs,q⟩:=h
 cases x with
 |non=>
  cases rx
  cases y with
  |non=>cases ry;exact PySem.EqNone.eq_none_none (aP I q (by simp))
  |bl j=>cases ry;exact PySem.EqNone.eq_none_bool (aP I q (by simp))
  |int j=>obtain ⟨t',rfl⟩:=ry;exact PySem.EqNone.eq_none_int (aP I q (by simp))
  |str j=>obtain ⟨t',rfl⟩:=ry;exact PySem.EqNone.eq_none_str (aP I q (by simp))
  |_=>exact absurd (show false=true from hs) yI
 |bl i=>
  cases rx
  cases y with
  |non=>cases ry;exact PySem.EqNone.eq_bool_none (aP I q (by simp))
  |bl j=>cases ry;exact eq_bool (aP I q rW)
  |str j=>obtain ⟨t',rfl⟩:=ry;exact PySem.EqMixed.eq_bool_str (aP I q (by simp))
  |_=>exact absurd (show false=true from hs) yI
 |int i=>
  obtain ⟨t,rfl⟩:=rx
  cases y with
  |non=>cases ry;exact PySem.EqNone.eq_int_none (aP I q (by simp))
  |int j=>obtain ⟨t',rfl⟩:=ry;exact eq_int (aP I q oo)
  |str j=>obtain ⟨t',rfl⟩:=ry;exact PySem.EqMixed.eq_int_str (aP I q (by simp))
  |_=>exact absurd (show false=true from hs) yI
 |str i=>
  obtain ⟨t,rfl⟩:=rx
  cases y with
  |non=>cases ry;exact PySem.EqNone.eq_str_none (aP I q (by simp))
  |bl j=>cases ry;exact PySem.EqMixed.eq_str_bool (aP I q (by simp))
  |int j=>obtain ⟨t',rfl⟩:=ry;exact PySem.EqMixed.eq_str_int (aP I q (by simp))
  |str j=>obtain ⟨t',rfl⟩:=ry;exact eq_str (aP I q om)
  |_=>exact absurd (show false=true from hs) yI
 |byt i=>
  obtain ⟨t,rfl⟩:=rx
  cases y with
  |byt j=>obtain ⟨t',rfl⟩:=ry;exact PySem.W.eq_bytes (aP I q oq)
  |_=>exact absurd (show false=true from hs) yI
 |_=>cases y<;>exact absurd (show false=true from hs) yI
theorem kh:OpR X (compareOp .NotEq) rNe:=by
 intro pins s σ H x y v u Q I rx ry h
 obtain ⟨hs,q⟩:=h
 cases x with
 |non=>
  cases rx
  cases y with
  |non=>cases ry;exact PySem.EqNone.ne_none_none (aP I q (by simp))
  |bl j=>cases ry;exact PySem.EqNone.ne_none_bool (aP I q (by simp))
  |int j=>obtain ⟨t',rfl⟩:=ry;exact PySem.EqNone.ne_none_int (aP I q (by simp))
  |str j=>obtain ⟨t',rfl⟩:=ry;exact PySem.EqNone.ne_none_str (aP I q (by simp))
  |_=>exact absurd (show false=true from hs) yI
 |bl i=>
  cases rx
  cases y with
  |non=>cases ry;exact PySem.EqNone.ne_bool_none (aP I q (by simp))
  |bl j=>cases ry;exact ne_bool (aP I q (congrArg not rW))
  |str j=>obtain ⟨t',rfl⟩:=ry;exact PySem.EqMixed.ne_bool_str (aP I q (by simp))
  |_=>exact absurd (show false=true from hs) yI
 |int i=>
  obtain ⟨t,rfl⟩:=rx
  cases y with
  |non=>cases ry;exact PySem.EqNone.ne_int_none (aP I q (by simp))
  |int j=>obtain ⟨t',rfl⟩:=ry;exact ne_int (aP I q (congrArg not oo))
  |str j=>obtain ⟨t',rfl⟩:=ry;exact PySem.EqMixed.ne_int_str (aP I q (by simp))
  |_=>exact absurd (show false=true from hs) yI
 |str i=>
  obtain ⟨t,rfl⟩:=rx
  cases y with
  |non=>cases ry;exact PySem.EqNone.ne_str_none (aP I q (by simp))
  |bl j=>cases ry;exact PySem.EqMixed.ne_str_bool (aP I q (by simp))
  |int j=>obtain ⟨t',rfl⟩:=ry;exact PySem.EqMixed.ne_str_int (aP I q (by simp))
  |str j=>obtain ⟨t',rfl⟩:=ry;exact ne_str (aP I q (congrArg not om))
  |_=>exact absurd (show false=true from hs) yI
 |byt i=>
  obtain ⟨t,rfl⟩:=rx
  cases y with
  |byt j=>obtain ⟨t',rfl⟩:=ry;exact PySem.W.ne_bytes (aP I q (congrArg not oq))
  |_=>exact absurd (show false=true from hs) yI
 |_=>cases y<;>exact absurd (show false=true from hs) yI
theorem iJ:OpR X (compareOp .Lt) (rI0 fun i j=> .bl (decide (i < j))):=opB0 fun _ _ _ _ _ _ _ q=>lt_int q
theorem ny:OpR X (compareOp .LtE) (rI0 fun i j=> .bl (decide (i≤j))):=opB0 fun _ _ _ _ _ _ _ q=>le_int q
theorem iK:OpR X (compareOp .Gt) (rI0 fun i j=> .bl (decide (j < i))):=opB0 fun _ _ _ _ _ _ _ q=>gt_int q
theorem xA:OpR X (compareOp .GtE) (rI0 fun i j=> .bl (decide (j≤i))):=opB0 fun _ _ _ _ _ _ _ q=>ge_int q
theorem ax (b:Expr) {op:CmpOp} (h:op≠ .In:=by decide) (h2:op≠ .NotIn:=by decide):behindInMarks op b=false:=by
 have e1:(op==CmpOp.In)=false:=by cases op<;>first|rfl|exact absurd rfl h
 have e2:(op==CmpOp.NotIn)=false:=by cases op<;>first|rfl|exact absurd rfl h2
 cases b<;>simp [behindInMarks,e1,e2]
theorem aY {op:CmpOp} {r:R2} (ho:OpR X (compareOp op) r) (ha:PE X a ta) (hb:PE X b tb) (hm:behindInMarks op b=false):PE X (.Compare a [op] [b] pos) (tOp r ta tb):=by
 intro pins s σ H Q I h
 exact wpAny_Compare1 (binT ha hb I h fun v u s2 x y H2 I2 rx ry q=>ho pins s2 σ H2 x y v u Q I2 rx ry q) hm
def pN (t:TE):TT:=fun σ H Q=>t σ H fun x H'=>∃k,x= .bl k∧Q k H'
theorem aE {op:CmpOp} {r:R2} (ho:OpR X (compareOp op) r) (ha:PE X a ta) (hb:PE X b tb) (hm:behindInMarks op b=false):PT X (.Compare a [op] [b] pos) (pN (tOp r ta tb)):=by
 intro pins s σ H Q I h
 refine wpAny_isTrue_Compare1 (thn (ha pins s σ H _ I h) fun v s1 ⟨x,H1,I1,r1,q1⟩=>thn (hb pins s1 σ H1 _ I1 q1) fun u s2 ⟨y,H2,I2,r2,q2⟩=>
  thn (ho pins s2 σ H2 x y v u _ I2 r1 r2 q2) fun c s3 ⟨z,H3,I3,r3,k,e,q3⟩=> ?_) hm
 subst e
 cases r3
 exact wpAny_truthy_bool ⟨H3,I3,q3⟩
def vC (r r':R2) (ta tb tc:TE):TE:=fun σ H Q=>ta σ H fun x H1=>tb σ H1 fun y H2=>r x y H2 fun z H3=>∃k,z= .bl k∧
 (if k=true then tc σ H3 fun w' H4=>r' y w' H4 Q else Q (.bl false) H3)
theorem gY {op op':CmpOp} {r r':R2} (ho:OpR X (compareOp op) r) (ho':OpR X (compareOp op') r') (ha:PE X a ta) (hb:PE X b tb) (hc:PE X c tc)
 (hm:lastMarks [op,op'] [b,c]=false:=by with_unfolding_all rfl):PT X (.Compare a [op,op'] [b,c] pos) (pN (vC r r' ta tb tc)):=by
 intro pins s σ H Q I h
 refine isTrue_chain (thn (ha pins s σ H _ I h) fun v s1 ⟨x,H1,I1,r1,q1⟩=>test_link (thn (hb pins s1 σ H1 _ I1 q1) fun u s2 ⟨y,H2,I2,r2,q2⟩=>
  thn (ho pins s2 σ H2 x y v u _ I2 r1 r2 q2) fun d s3 ⟨z,H3,I3,r3,k,e,q3⟩=> ?_)) hm
 subst e
 cases r3
 refine wpAny_truthy_bool ?_
 cases k with
 |false=>
  obtain ⟨k',e',q'⟩:=q3
  cases e'
  exact ite_ff ⟨H3,I3,q'⟩
 |true=>
  refine ite_tt (test_last (thn (hc pins s3 σ H3 _ I3 q3) fun w' s4 ⟨z',H4,I4,r4,q4⟩=>thn (ho' pins s4 σ H4 y z' u w' _ I4 r2 r4 q4) fun d' s5 ⟨z2,H5,I5,r5,k2,e2,q5⟩=> ?_))
  subst e2
  cases r5
  exact wpAny_truthy_bool ⟨H5,I5,q5⟩
theorem fq:(sizeLine:Nat) < 2^63:=by rw [sizeLine_eq];decide
theorem eE:OpR X (binaryOp .Add) (fun x y H Q=>∃i j,x= .str i∧y= .str j∧i.length+j.length≤sizeLine∧Q (.str (i++j)) H):=by
 intro pins s σ H x y v u Q I rx ry h
 obtain ⟨i,j,rfl,rfl,hz,q⟩:=h
 obtain ⟨t,rfl⟩:=rx
 obtain ⟨t',rfl⟩:=ry
 exact add_str (fun t' tk=>⟨.str (i++j),H,I.tok _,⟨_,rfl⟩,q⟩) hz
theorem dg {x:V} {us:List Value} (r:Vals [x] us):∃u,us= [u]∧RelV x u:=by
 cases r with
 |cons r1 r2=>cases r2;exact ⟨_,rfl,r1⟩
theorem lw:ci X (.builtin "abs") (fun xs H Q=>∃i,xs= [.int i]∧Q (.int (if i < 0 then -i else i)) H):=by
 intro pins s σ H xs us Q I r h
 obtain ⟨i,rfl,q⟩:=h
 obtain ⟨u,rfl,t,rfl⟩:=dg r
 exact call_abs_int fun u tk=>⟨.int (if i < 0 then -i else i),H,I.tok _,⟨_,rfl⟩,q⟩
theorem jF:ci X (.type "str") (fun xs H Q=>∃i,xs= [.int i]∧i.natAbs.log2 < 1920∧Q (.str (toString i)) H):=by
 intro pins s σ H xs us Q I r h
 obtain ⟨i,rfl,hz,q⟩:=h
 obtain ⟨u,rfl,t,rfl⟩:=dg r
 exact PySem.P.str_of_int hz ⟨.str _,H,I.tok _,⟨_,rfl⟩,q⟩
end
open PySem PySem.Spec PyProof.Rows
structure ObjM (h:Heap) (x dx C:Addr) (mA:Str→Option Value):Prop where
 obj:h.get? x=some (PySem.W.instObj C dx)
 ns:h.Ns1 dx mA
 ne:dx≠x
theorem p9 {h:Heap} {dx:Addr} {mA:Str→Option Value} (n:h.Ns1 dx mA):∃od,h.get? dx=some od∧∀name,PySem.W.lookIn name od=some (mA name):=by
 obtain ⟨o,es,ep,ho,hd,hk,_,hm⟩:=n
 refine ⟨o,ho,fun name=> ?_⟩
 have e:=hm name
 unfold nsFind findBy at e
 rw [←Array.find?_toList] at e
 unfold PySem.W.lookIn
 rw [hd]
 dsimp only
 split
 · rename_i y q
   rw [q] at e
   exact congrArg some e
 · rename_i q
   rw [q] at e
   have a:es.toList.any (·.refKey)=false:=by
    rw [List.any_eq_false]
    intro y hy
    obtain ⟨z,t,hkey⟩:=hk y (Array.mem_toList_iff.mp hy)
    simp [DictEntry.refKey,hkey]
   have a':¬es.toList.any (·.refKey)=true:=by rw [a];exact yI
   rw [if_neg a']
   exact congrArg some e
theorem ObjM.look {h:Heap} {x dx C:Addr} {mA:Str→Option Value} (I:ObjM h x dx C mA):∃od,PySem.W.InstAt h x (PySem.W.instObj C dx) C (some od)∧∀name,PySem.W.lookIn name od=some (mA name):=
 let ⟨od,ho,hl⟩:=p9 I.ns
 ⟨od,⟨I.obj,rfl,rfl,ho⟩,hl⟩
section
variable {prog:Program} {w:World} {A:Around} {E:Value→Shared→Prop} {s:Shared} {K:PySem.W.Frag} {x dx C f:Addr} {mA:Str→Option Value} {name:Str} {v:Value}
end
section
variable {P:Program} {w:World} {H H':Hp} {h h':Heap} {a C dx:Addr} {fs fs':List (Str×V)}
theorem uk (hok:HOk P w H h) (e:H a=some (.ins C dx fs)):∃mA,ObjM h a dx C mA∧(∀f,RelO (fs.lookup f) (mA f))∧PySem.Within mA (fs.map (·.1))∧fs.length≤1000∧H dx=some (.own a):=by
 obtain ⟨d,z,ne,ob,mA,n,r,q⟩:=(show ObjOk P w H h a (.ins C dx fs) from hok a _ e)
 exact ⟨mA,⟨ob,n,ne⟩,r,q,z,d⟩
end
structure Cls (K:PySem.W.Frag) (C:Addr):Prop where
 pg:PySem.W.plainGet K C Str.empty=true
 hd:PySem.W.hasDictIn K C=true
 po:PySem.W.plainOver K C=true
 sa:PySem.W.findIn K (.ref C) "__setattr__"=some (some (.builtin "object.__setattr__"))
theorem Cls.get {K:PySem.W.Frag} {C:Addr} (c:Cls K C) (f:Str):PySem.W.plainGet K C f=true:=c.pg
section
variable {X:Cx} {pins:List (Addr×Obj)} {σ:St} {H:Hp} {s:Shared} {a C dx:Addr} {fs:List (Str×V)} {f:Str} {v:V} {A:Around} {E:Value→Shared→Prop}
theorem Inv.made (I:Inv X pins σ H s):Inv X pins σ (upd (upd H s.heap.objs.size (.own (s.heap.objs.size+1))) (s.heap.objs.size+1) (.ins C s.heap.objs.size []))
 {s with heap:=(s.heap.push PySem.W.emptyDict).push (PySem.W.instObj C s.heap.objs.size)}:=by
 have e1:(s.heap.push PySem.W.emptyDict).get? s.heap.objs.size=some PySem.W.emptyDict:=Heap.get?_push_size s.heap rfl
 have e2:((s.heap.push PySem.W.emptyDict).push (PySem.W.instObj C s.heap.objs.size)).get? (s.heap.objs.size+1)=some (PySem.W.instObj C s.heap.objs.size):=by
  have:=Heap.get?_push_size (s.heap.push PySem.W.emptyDict) (o:=PySem.W.instObj C s.heap.objs.size) rfl
  rwa [Heap.size_push] at this
 have e3:(s.heap.push PySem.W.emptyDict).Ns s.heap.objs.size (fun _=>none):=⟨PySem.W.emptyDict, #[],_,e1,rfl,(fun e he=>absurd he (by simp)),fun _=>rfl⟩
 have I1:=I.laid (a:=s.heap.objs.size) (o:= .own (s.heap.objs.size+1)) (h':=s.heap.push PySem.W.emptyDict) (t':=s.toks) (fun b u q=>Heap.get?_push_of_some _ q) (yl _) ⟨_,e1⟩
 refine I1.laid (a:=s.heap.objs.size+1) (o:= .ins C s.heap.objs.size []) (t':=s.toks) (fun b u q=>Heap.get?_push_of_some _ q) (Nat.le_of_eq (Heap.size_push _ _)) ?_
 have ne:s.heap.objs.size≠s.heap.objs.size+1:=yE (Nat.lt_succ_self _)
 refine ⟨by rw [aF ne,ad],yO _,ne,e2,fun _=>none,(Heap.Ns1.of_empty e3).at fun o q=>Heap.get?_push_of_some _ q,fun _=>True.intro,fun y hy=>absurd rfl hy⟩
end
section
variable {X:Cx} {o e value:Expr} {f:Str} {pos pos' tpos:Pos} {ta tv:TE}
end
section
variable {X:Cx} {pins:List (Addr×Obj)} {σ:St} {H:Hp} {s:Shared} {A:Around} {E:Value→Shared→Prop} {Q:Value→Shared→Prop} {c:Value} {b:Bool}
inductive TyOf (K:PySem.W.Frag) (H:Hp):V→Value→Prop where
 |non:TyOf K H .non (.type "NoneType")
 |bl (x:Bool):TyOf K H (.bl x) (.type "bool")
 |int (i:Int):TyOf K H (.int i) (.type "int")
 |str (x:Str):TyOf K H (.str x) (.type "str")
 |flt (x:UInt64):TyOf K H (.flt x) (.type "float")
 |lst {a:Addr} {xs:List V} (e:H a=some (.lst xs)):TyOf K H (.ref a) (.type "list")
 |frz {a:Addr} {o:Obj} {xs:List V} (e:H a=some (.frz o (.lst xs))):TyOf K H (.ref a) (.type "list")
 |tup {a:Addr} {xs:List V} (e:H a=some (.tup xs)):TyOf K H (.ref a) (.type "tuple")
 |dK {a:Addr} {kvs:List (Key×V)} (e:H a=some (.dK kvs)):TyOf K H (.ref a) (.type "dict")
 |dT {a:Addr} {kvs:List (List Key×V)} (e:H a=some (.dT kvs)):TyOf K H (.ref a) (.type "dict")
 |ins {a C dx:Addr} {fs:List (Str×V)} (e:H a=some (.ins C dx fs)) (cl:Cls K C) (ha:PySem.W.findIn K (.ref C) "__class__"=some (some (.builtin "object.__class__")))
  (hn:PySem.W.specialIn K (.builtin "object.__class__") "__get__"=some (some (.builtin "getset_descriptor.__get__"))) (htk:PySem.W.takesIn K (.builtin "object.__class__")=some true)
  (hm:PySem.W.mroIn K C (.type "object")=some true):TyOf K H (.ref a) (.ref C)
end
open PySem PySem.Spec PyProof.Rows
structure Room (k:Nat) (A:Around):Prop where
 hd:A.handled=none
 dp:A.depth+3*k+5 < recursionLimit
 un:A.units+16*k+200 < cLine
 gd:A.guards=some []
theorem Room.mono {j k:Nat} {A:Around} (r:Room k A) (h:j≤k):Room j A:=⟨r.hd,by have:=r.dp;omega,by have:=r.un;omega,r.gd⟩
theorem Room.deeper {k:Nat} {A:Around} (r:Room (k+1) A) (env:Env):Room k (A.deeper env):=
 ⟨r.hd,by have:=r.dp;show A.depth+1+3*k+5 < _;omega,by have:=r.un;show A.units+3+16*k+200 < _;omega,by first|exact r.gd|(have:=r.gd;simpa [Around.deeper,Around.under] using this)⟩
theorem Room.in1 {k:Nat} {A:Around} (r:Room (k+1) A):Room k A.in1:=
 ⟨r.hd,by have:=r.dp;show A.depth+3*k+5 < _;omega,by have:=r.un;show A.units+1+16*k+200 < _;omega,r.gd⟩
theorem mn {A:Around} {C:Addr} {us:List Value} {kw:List (Str×Value)}:(A.under (.builtin "type.__call__" ⟨.ref C::us,kw⟩)).depth=A.depth+1:=by
 first|rfl|simp [Around.under,Code.weight,Code.isCreation,Code.isGuard,Code.isCaller,Code.frames,Code.isFrame,guardIds]
theorem ml {A:Around} {C:Addr} {us:List Value} {kw:List (Str×Value)}:(A.under (.builtin "type.__call__" ⟨.ref C::us,kw⟩)).units=A.units+1:=by
 first|rfl|simp [Around.under,Code.cUnits,Code.frames,Code.isFrame]
theorem Room.make {k:Nat} {A:Around} (r:Room (k+1) A) (C:Addr) (us:List Value) (kw:List (Str×Value)):Room k (A.under (.builtin "type.__call__" ⟨.ref C::us,kw⟩)):=
 ⟨r.hd,by have:=r.dp;rw [mn];omega,by have:=r.un;rw [ml];omega,by have:=r.gd;simp [Around.under,Code.guards,Code.isGuard,guardIds,pushGuards,this]⟩
theorem Room.depth {k:Nat} {A:Around} (r:Room k A):A.depth < recursionLimit:=by have:=r.dp;omega
theorem Room.units {k:Nat} {A:Around} (r:Room k A):A.units+64 < cLine:=by have:=r.un;omega
def tNil:TA:=fun _ H Q=>Q [] H
def bE (ta:TE) (tr:TA):TA:=fun σ H Q=>ta σ H fun x H1=>tr σ H1 fun xs H2=>Q (x::xs) H2
section
variable {X:Cx} {e:Expr} {es:List Expr} {te:TE} {t:TA} {pos:Pos}
theorem aa:PA X [] tNil:=fun _ _ _ _ H Q I h=>Calls.spliced_nil ⟨[],H,I, .nil,h⟩
theorem a9 (ha:PE X e te) (hr:PA X es t) (hs:starEach (e::es) X.env=(false,eval e X.env)::starEach es X.env:=by rfl):PA X (e::es) (bE te t):=by
 intro pos pins s σ H Q I h
 rw [hs]
 show wpAny _ _ (spliced ((false,eval e X.env)::backTo pos (starEach es X.env))) _ _ s
 refine Calls.spliced_cons (thn (ha pins s σ H _ I h) fun u s1 ⟨x,H1,I1,r1,q1⟩=> ?_)
 exact thn (hr pos pins s1 σ H1 _ I1 q1) fun us s2 ⟨xs,H2,I2,r2,q2⟩=>⟨x::xs,H2,I2, .cons r1 r2,q2⟩
def tTup (t:TA):TE:=fun σ H Q=>t σ H fun xs H1=>xs.length≤sizeLine∧∀p,H1 p=none→Q (.ref p) (upd H1 p (.tup xs))
def tLst (t:TA):TE:=fun σ H Q=>t σ H fun xs H1=>xs.length≤sizeLine∧∀p,H1 p=none→Q (.ref p) (upd H1 p (.lst xs))
theorem aX {x1} (h:PA X es t):PE X (.Tuple es x1 pos) (tTup t):=by
 intro pins s σ H Q I hq
 refine wpAny_Tuple_spliced (thn (h pos pins s σ H _ I hq) fun us s1 ⟨xs,H1,I1,r,z,q⟩=>⟨by rw [←r.length];exact z,?_⟩)
 have hf:H1 s1.heap.objs.size=none:=I1.hok.fresh (yl _)
 refine ⟨.ref s1.heap.objs.size,upd H1 s1.heap.objs.size (.tup xs),I1.laid (t':=s1.toks) (fun b u e=>Heap.get?_push_of_some _ e) (yl _) ?_,rfl,q _ hf⟩
 exact ⟨z,us,r,⟨_,Heap.get?_push_size _ rfl,rfl,_,rfl⟩⟩
theorem aR (h:PA X es t):PE X (.List es pos) (tLst t):=by
 intro pins s σ H Q I hq
 refine wpAny_List_spliced (thn (h pos pins s σ H _ I hq) fun us s1 ⟨xs,H1,I1,r,z,q⟩=>⟨by rw [←r.length];exact z,?_⟩)
 have hf:H1 s1.heap.objs.size=none:=I1.hok.fresh (yl _)
 refine ⟨.ref s1.heap.objs.size,upd H1 s1.heap.objs.size (.lst xs),I1.laid (t':=s1.toks) (fun b u e=>Heap.get?_push_of_some _ e) (yl _) ?_,rfl,q _ hf⟩
 exact ⟨z,us,0,r,Heap.get?_push_size _ rfl⟩
end
abbrev Sp:=List V→Hp→VK→XK→Prop
abbrev CXT:=List Env→Hp→Shared→XK→Value→Shared→Prop
structure Env0 (P:Program) (w:World) (K:PySem.W.Frag) (mg:Str→Option Value) (base:Heap) (A:Around) (outer:List Env) (s:Shared) (H:Hp):Prop where
 frames:A.frames=some outer
 mod:Mod K mg base
 bs:∀b o,base.get? b=some o→s.heap.get? b=some o∧Idl (H b)
 bsz:base.objs.size≤s.heap.objs.size
 funs:s.heap.FunFrames base outer
 frf:∀b∈frs outer,H b=none
 hok:HOk P w H s.heap
 bare:AllBare s.gens
def CE (outer:List Env) (P:Program) (w:World) (H:Hp) (s:Shared) (Q:VK) (u:Value) (s':Shared):Prop:=
 ∃v H',s'.os=s.os∧AllBare s'.gens∧Un (frs outer) [] H H' s.heap s'.heap∧HOk P w H' s'.heap∧RelV v u∧Q v H'
def CR (CX:CXT) (outer:List Env) (P:Program) (w:World) (H:Hp) (s:Shared) (Q:VK) (E:XK) (r:Result) (s':Shared):Prop:=
 match r with
 | .ok (.ret u)=>CE outer P w H s Q u s'
 | .ok _=>False
 | .error e=>CX outer H s E e s'
structure FnOk (P:Program) (w:World) (K:PySem.W.Frag) (mg:Str→Option Value) (base:Heap) (CX:CXT) (k:Nat) (f:Addr) (fd:FuncData) (ps:List Str) (sp:Sp):Prop where
 len:∀vs H Q E,sp vs H Q E→vs.length=ps.length
 run:∀(A:Around) (outer:List Env) (s:Shared) (H:Hp) (args:Args) (us:List Value) (vs:List V) (Q:VK) (E:XK),Room k A→Env0 P w K mg base A outer s H→BindsTo s fd args (ps.zip us)→Vals vs us→sp vs H Q E→
  codeAny (model P w) A (.call (.ref f) args) (CR CX outer P w H s Q E) s
theorem FnOk.mono {P:Program} {w:World} {K:PySem.W.Frag} {mg:Str→Option Value} {base:Heap} {CX:CXT} {j k:Nat} {f:Addr} {fd:FuncData} {ps:List Str} {sp:Sp} (F:FnOk P w K mg base CX j f fd ps sp) (h:j≤k):
 FnOk P w K mg base CX k f fd ps sp:=⟨F.len,fun A outer s H args us vs Q E hr=>F.run A outer s H args us vs Q E (hr.mono h)⟩
theorem Env0.make {P:Program} {w:World} {K:PySem.W.Frag} {mg:Str→Option Value} {base:Heap} {A:Around} {outer:List Env} {s:Shared} {H:Hp} (e:Env0 P w K mg base A outer s H) (C:Addr) (us:List Value) (kw:List (Str×Value)):
 Env0 P w K mg base (A.under (.builtin "type.__call__" ⟨.ref C::us,kw⟩)) outer s H:=⟨by first|exact e.frames|(simpa [Around.under,Code.envs,Code.isFrame,pushEnvs] using e.frames),e.mod,e.bs,e.bsz,e.funs,e.frf,e.hok,e.bare⟩
theorem Env0.in1 {P:Program} {w:World} {K:PySem.W.Frag} {mg:Str→Option Value} {base:Heap} {A:Around} {outer:List Env} {s:Shared} {H:Hp} (e:Env0 P w K mg base A outer s H):
 Env0 P w K mg base A.in1 outer s H:=⟨e.frames,e.mod,e.bs,e.bsz,e.funs,e.frf,e.hok,e.bare⟩
section
variable {X:Cx} {pins:List (Addr×Obj)} {σ:St} {H:Hp} {s s':Shared}
theorem Inv.env0 (I:Inv X pins σ H s):Env0 X.prog X.w X.K X.mg X.base X.A X.stack s H:=
 ⟨I.ok.frames,I.ok.mod,I.bs,yU I.ok.bsz I.sz,I.stack,I.stkFree,I.hok,I.bare⟩
theorem Inv.after {Q:VK} {u:Value} (I:Inv X pins σ H s) (h:CE X.stack X.prog X.w H s Q u s'):EP X pins σ Q u s':=by
 obtain ⟨v,H',os,bare,un,hok,r,q⟩:=h
 obtain ⟨hh,g,d,t,os'⟩:=s'
 obtain rfl:os'=s.os:=os
 exact ⟨v,H',I.call (h':=hh) (g':=g) (d':=d) (t':=t) (ch:= []) un hok bare (fun b z=>absurd z (by simp)),r,q⟩
end
def pR (sp:Sp) (dvs:List V) (E:XK) (t:TA):TE:=fun σ H Q=>t σ H fun vs H1=>sp (vs++dvs) H1 Q E
def Binds (K:PySem.W.Frag) (fd:FuncData) (ps:List Str) (ds:List Value):Prop:=
 ∀(s:Shared) (us:List Value),K.In s.heap→(us++ds).length=ps.length→BindsTo s fd ⟨us,[]⟩ (ps.zip (us++ds))
theorem Binds.all {K:PySem.W.Frag} {fd:FuncData} {ps:List Str} (h:∀us:List Value,us.length=ps.length→bindArgs fd ⟨us,[]⟩=pure (ps.zip us)):Binds K fd ps []:=fun s us _ hl=>by
 rw [List.append_nil] at hl ⊢
 exact .of_eq (h us hl)
def ik (CX:CXT) (X:Cx) (E:XK):Prop:=∀(pins:List (Addr×Obj)) (σ:St) (H:Hp) (s:Shared) (e:Value) (s':Shared),Inv X pins σ H s→CX X.stack H s E e s'→X.xe e s'
section
variable {X:Cx} {CX:CXT} {k:Nat} {f C:Addr} {fd:FuncData} {ps:List Str} {sp:Sp} {dvs:List V} {ds:List Value} {E:XK} {x m:Str} {p pos apos:Pos} {e o:Expr} {es:List Expr} {ta:TE} {t:TA}
theorem vL {pins:List (Addr×Obj)} {σ:St} {H:Hp} {s:Shared} {Q:VK} {us:List Value} {vs:List V} (F:FnOk X.prog X.w X.K X.mg X.base CX k f fd ps sp) (hr:Room k X.A) (hb:Binds X.K fd ps ds) (hd:Vals dvs ds) (hx:ik CX X E)
 (I:Inv X pins σ H s) (r:Vals vs us) (h:sp (vs++dvs) H Q E):wpAny (model X.prog X.w) X.A (call (.ref f) us) (EP X pins σ Q) X.xe s:=by
 have r2:Vals (vs++dvs) (us++ds):=r.append hd
 have hl:(us++ds).length=ps.length:=by rw [←r2.length];exact F.len _ _ _ _ h
 refine wpAny_call (codeAny_mono (F.run X.A X.stack s H ⟨us,[]⟩ (us++ds) (vs++dvs) Q E hr I.env0 (hb s us I.kIn hl) r2 h) fun r s' hq=> ?_)
 cases r with
 |error e=>exact hx pins σ H s e s' I hq
 |ok fl=>
  cases fl with
  |ret u=>exact I.after hq
  |next=>exact False.elim hq
  |brk=>exact False.elim hq
  |cont=>exact False.elim hq
theorem af (F:FnOk X.prog X.w X.K X.mg X.base CX k f fd ps sp) (hr:Room k X.A) (hg:Gl X x) (hm:X.mg x=some (.ref f)) (hk:PySem.W.keepIn X.K (.ref f)=true) (hb:Binds X.K fd ps ds) (hd:Vals dvs ds) (hx:ik CX X E)
 (ha:PA X (e::es) t) (hdb:(x==("__debug__":Str))=false:=by decide) (he:starEach (e::es) X.env=(false,eval e X.env)::starEach es X.env:=by rfl) (hpl:(backTo pos (starEach es X.env)).any (·.1)=false:=by rfl):
 PE X (.Call (.Name x p) (e::es) [] pos) (pR sp dvs E t):=by
 intro pins s σ H Q I h
 refine wpAny_Call_Name_kw (jw I hg hm ?_ hdb)
 refine PySem.W.callWith_K (h₀:=X.base) I.ok.mod.kin hk (thn (ha pos pins s σ H _ I h) fun us s1 ⟨vs,H1,I1,r,q⟩=>⟨I1.kIn,?_⟩) he hpl
 exact vL F hr hb hd hx I1 r q
end
section
variable {X:Cx} {CX:CXT} {k:Nat} {f C:Addr} {fd:FuncData} {ps ks:List Str} {sp:Sp} {E:XK} {x m:Str} {p pos apos kpos:Pos} {e o:Expr} {es:List Expr} {kws:List Keyword} {te ta:TE} {t tk:TA} {nm:Option Str}
variable {g:List Value→List Value→List Value} {gV:List V→List V→List V}
end
structure az (N P:List Str) (sc:Scope):Prop where
 kind:sc.kind= .function
 co:sc.isCoroutine=false
 gen:sc.isGenerator=false
 nd:N.Nodup
 pre:N.take P.length=P
 par:∀x∈P,sc.names.lookup x=some .local∨sc.names.lookup x=some .cell
 nofree:∀y∈sc.names,y.2≠ .free
theorem iU {kindOf:Str→Option NameKind} {x:Str}:∀ {binds:List (Str×Value)} {m:Str→Option Value},(∀v,(x,v)∉binds)→bindL kindOf binds m x=m x
 | [],_,_=>rfl
 |(n,v)::r,m,h=>by
  unfold bindL
  rw [iU fun w hw=>h w (ym _ hw)]
  split
  · have:x≠n:=by rintro rfl;exact h v yn
    simp [this]
  · rfl
theorem iW {kindOf:Str→Option NameKind} {x:Str}:∀ {binds:List (Str×Value)} {m:Str→Option Value},(∀v,(x,v)∉binds)→bindC kindOf binds m x=m x
 | [],_,_=>rfl
 |(n,v)::r,m,h=>by
  unfold bindC
  rw [iW fun w hw=>h w (ym _ hw)]
  split
  · rfl
  · have:x≠n:=by rintro rfl;exact h v yn
    simp [this]
theorem iV {kindOf:Str→Option NameKind} {x:Str} {v:Value}:∀ {P:List Str} {vs:List Value} {i:Nat} {m:Str→Option Value},P.Nodup→P[i]?=some x→vs[i]?=some v→kindOf x=some .local→
 bindL kindOf (P.zip vs) m x=some v
 | [],_,_,_,_,h,_,_=>by simp at h
 |_::_,[],_,_,_,_,h,_=>by simp at h
 |p::P,w::vs,0,m,nd,h1,h2,hk=>by
  simp at h1 h2;subst h1;subst h2
  show bindL kindOf ((p,w)::P.zip vs) m p=_
  unfold bindL
  rw [iU fun v hv=>(zp.mp nd).1 (List.of_mem_zip hv).1,if_pos hk]
  simp
 |p::P,w::vs,i+1,m,nd,h1,h2,hk=>by
  show bindL kindOf ((p,w)::P.zip vs) m x=_
  unfold bindL
  exact iV (i:=i) (zp.mp nd).2 (by simpa using h1) (by simpa using h2) hk
theorem iX {kindOf:Str→Option NameKind} {x:Str} {v:Value}:∀ {P:List Str} {vs:List Value} {i:Nat} {m:Str→Option Value},P.Nodup→P[i]?=some x→vs[i]?=some v→kindOf x≠some .local→
 bindC kindOf (P.zip vs) m x=some v
 | [],_,_,_,_,h,_,_=>by simp at h
 |_::_,[],_,_,_,_,h,_=>by simp at h
 |p::P,w::vs,0,m,nd,h1,h2,hk=>by
  simp at h1 h2;subst h1;subst h2
  show bindC kindOf ((p,w)::P.zip vs) m p=_
  unfold bindC
  rw [iW fun v hv=>(zp.mp nd).1 (List.of_mem_zip hv).1,if_neg hk]
  simp
 |p::P,w::vs,i+1,m,nd,h1,h2,hk=>by
  show bindC kindOf ((p,w)::P.zip vs) m x=_
  unfold bindC
  exact iX (i:=i) (zp.mp nd).2 (by simpa using h1) (by simpa using h2) hk
noncomputable def eM (N:List Str) (vs:List V):St:=vs.map some++List.replicate (N.length - vs.length) none
noncomputable def cxOf (CX:CXT) (P:Program) (w:World) (K:PySem.W.Frag) (mg:Str→Option Value) (base:Heap) (N:List Str) (qual:Str) (scope:Scope) (f:Addr) (cd:Value) (A:Around) (outer:List Env) (s:Shared) (H:Hp) (E:XK):Cx where
 prog:=P
 w:=w
 K:=K
 mg:=mg
 base:=base
 A:=A.deeper (envOfC qual scope s.heap.objs.size f cd)
 N:=N
 s₀:=s
 H₀:=H
 env:=envOfC qual scope s.heap.objs.size f cd
 outer:=outer
 stack:=envOfC qual scope s.heap.objs.size f cd::outer
 ex:= []
 calm:=true
 fn:=fun _=>true
 pn:= []
 xe:=fun e s'=>wpAny (model P w) (A.deeper (envOfC qual scope s.heap.objs.size f cd)) (leaving (envOfC qual scope s.heap.objs.size f cd) e) (fun _ s''=>CX outer H s E e s'') (fun e' s''=>CX outer H s E e' s'') s'
theorem lu {sc:Scope} {n:Nat} {x:Str} (h:sc.names.lookup x=some .cell):∃c,(cellsFrom n sc.names []).lookup x=some c:=by
 have q:=PySem.W.cellsFrom_some sc.names n [] (.inl h)
 exact Option.isSome_iff_exists.mp q
theorem pb {CX:CXT} {P:Program} {w:World} {K:PySem.W.Frag} {mg:Str→Option Value} {base:Heap} {N ps:List Str} {qual:Str} {scope:Scope} {f:Addr} {cd:Value} {A:Around} {outer:List Env} {s s1:Shared} {H:Hp} {E:XK} {us:List Value} {vs:List V}
 (S:az N ps scope) (hd:A.handled=none) (e0:Env0 P w K mg base A outer s H) (hl:vs.length=ps.length) (r:Vals vs us)
 (x:InCallC s s.heap.objs.size (bindL (envOfC qual scope s.heap.objs.size f cd).kindOf (ps.zip us) fun _=>none) (cellsFrom (s.heap.objs.size+1) scope.names []) (bindC (envOfC qual scope s.heap.objs.size f cd).kindOf (ps.zip us) fun _=>none) s1):
 Inv (cxOf CX P w K mg base N qual scope f cd A outer s H E) [] (eM N vs) H s1:=by
 have hpl:ps.length≤N.length:=by have:=congrArg List.length S.pre;rw [yN] at this;omega
 obtain ⟨h1,tk,rfl,hk⟩:=x.done
 have noA:∀b:Addr,b∉(cxOf CX P w K mg base N qual scope f cd A outer s H E).ex:=fun b z=>absurd (show b∈([]:List Addr) from z) (by simp)
 refine ⟨⟨e0.mod,S.kind,rfl,rfl,yl _,fun y z c h1 h2=> ?_,fun y hy=> ?_,fun y c _ h=> ?_,fun _=>hd,Around.frames_deeper e0.frames, .inr ⟨rfl,rfl⟩,fun b z=>absurd z (noA b),e0.bs,e0.bsz,fun b _ _=>noA b,fun b z=>absurd z (noA b),e0.funs,e0.frf⟩,
  rfl,e0.bare,Un.kept hk,⟨_,x.toInCall.ns,fun i y v h1 h2 h3=> ?_⟩,fun y c h=>⟨_,x.cell y c h⟩,e0.hok.fresh (yl _),fun y c h=> ?_,fun p hp=>absurd (show p∈([]:List (Addr×Obj)) from hp) (by simp),e0.hok.kept hk,?_⟩
 · exact name_of_addr x.apart (PySem.mem_of_lookup h1) (PySem.mem_of_lookup h2)
 · have hy:scope.names.lookup y=some .cell∨scope.names.lookup y=some .free:=hy
   rcases hy with hy|hy
   · exact lu hy
   · exact absurd rfl (S.nofree _ (PySem.mem_of_lookup hy))
 · exact Nat.le_of_lt (x.above y c (PySem.mem_of_lookup h))
 · have hi:i < vs.length:=by
    unfold eM at h2
    by_cases hi:i < vs.length
    · exact hi
    · rw [List.getElem?_append_right (by simpa using hi)] at h2
      rw [List.getElem?_replicate] at h2
      split at h2<;>cases h2
   have ha:vs[i]?=some v:=by
    unfold eM at h2
    rw [List.getElem?_append_left (by simpa using hi),yL] at h2
    cases e:vs[i]? with
    |none=>rw [e] at h2;cases h2
    |some a=>rw [e] at h2;cases h2;rfl
   obtain ⟨u,hu,rv⟩:=r.get ha
   have hp:ps[i]?=some y:=by
    rw [←S.pre,List.getElem?_take_of_lt (by omega)];exact h1
   have ndP:ps.Nodup:=by rw [←S.pre];exact S.nd.sublist (List.take_sublist _ _)
   refine ⟨u,rv,?_⟩
   rcases S.par y (yw hp) with k|k
   · exact .inl ⟨k,iV ndP hp hu k⟩
   · obtain ⟨c,e⟩:=lu (n:=s.heap.objs.size+1) k
     refine .inr ⟨.inl k,c,e,?_⟩
     have q:=x.cell y c e
     rw [iX ndP hp hu (by show scope.names.lookup y≠_;rw [k];decide)] at q
     exact q
 · exact e0.hok.fresh (Nat.le_of_lt (x.above y c (PySem.mem_of_lookup h)))
 · unfold eM
   show _=N.length
   rw [yt,yo,List.length_replicate]
   omega
theorem vh {CX:CXT} {P:Program} {w:World} {K:PySem.W.Frag} {mg:Str→Option Value} {base:Heap} {k:Nat} {f:Addr} {name qual:Str} {params:Arguments} {body:List Stmt} {scope:Scope} {dV kV doc pm cdv ct oc:Value} {an od:Option Addr}
 {osl:Array (Option Value)} {N ps:List Str} {sp:Sp} (lk:K.lookup f=some ⟨oc,od, .func (PySem.W.fnOf name qual params body scope dV kV doc pm an cdv ct),osl⟩) (hcd:PySem.W.codeIn K cdv qual=true) (S:az N ps scope)
 (len:∀vs H Q E,sp vs H Q E→vs.length=ps.length)
 (hbody:∀(A:Around) (outer:List Env) (s:Shared) (H:Hp) (vs:List V) (Q:VK) (E:XK),Room k (A.deeper (envOfC qual scope s.heap.objs.size f cdv))→sp vs H Q E→
  ∃t,PSs (cxOf CX P w K mg base N qual scope f cdv A outer s H E) body t∧t {nx:=fun _ H'=>Q .non H',rt:=Q} (eM N vs) H):
 FnOk P w K mg base CX (k+1) f (PySem.W.fnOf name qual params body scope dV kV doc pm an cdv ct) ps sp:=by
 refine ⟨len,fun A outer s H args us vs Q E hr e0 hb r hsp=> ?_⟩
 have hl:=len _ _ _ _ hsp
 have KX:K.In s.heap:=e0.mod.kin.keeps fun b o e=>(e0.bs b o e).1
 have lim:s.heap.NoLimit:=e0.mod.nolimit.keeps fun b o e=>(e0.bs b o e).1
 have hkind:∀y∈ps.zip us,scope.names.lookup y.1=some .local∨(scope.names.lookup y.1=some .cell∧((cellsFrom (s.heap.objs.size+1) scope.names []).lookup y.1).isSome=true):=fun ⟨n,v⟩ hy=>by
  rcases S.par n (List.of_mem_zip hy).1 with q|q
  · exact .inl q
  · exact .inr ⟨q,PySem.W.cellsFrom_some _ _ _ (.inl q)⟩
 refine codeAny_call_function hr.depth (KX _ _ lk) rfl S.co S.gen rfl (PySem.W.codeRec_of KX hcd) (hb _ _ _ _ ?_)
 refine wpAny_newFunctionEnv_cells S.kind hkind fun env he s1 x=> ?_
 subst he
 refine ⟨lim.keeps x.toInCall.keep,codeAny_func ?_⟩
 obtain ⟨t,ht,hq⟩:=hbody A outer s H vs Q E (hr.deeper _) hsp
 have I:Inv (cxOf CX P w K mg base N qual scope f cdv A outer s H E) [] (eM N vs) H s1:=pb S hr.hd e0 hl r x
 refine wpAny_mono (ht [] s1 (eM N vs) H _ I hq) (fun fl s' hs=> ?_) fun e s' hs=>hs
 have fin:∀ {σ':St} {H':Hp} {v:V} {u:Value},Inv (cxOf CX P w K mg base N qual scope f cdv A outer s H E) [] σ' H' s'→RelV v u→Q v H'→CE outer P w H s Q u s':=
  fun {σ' H' v u} J rv q=>⟨v,H',J.os,J.bare,J.base,J.hok,rv,q⟩
 cases fl with
 |ret u=>
  obtain ⟨v,σ',H',J,rv,q⟩:=hs
  exact fin J rv q
 |next=>
  obtain ⟨σ',H',J,q⟩:=hs
  exact fin (v:=V.non) (u:=Value.none) J rfl q
 |brk=>
  obtain ⟨_,_,_,q⟩:=hs
  exact False.elim q
 |cont=>
  obtain ⟨_,_,_,q⟩:=hs
  exact False.elim q
open PySem PySem.Spec PyProof.Rows
section
variable {X:Cx} {x:Str} {p pos:Pos} {e:Expr} {es:List Expr} {t:TA} {id T:String} {r:List V→Hp→VK→Prop}
def tCB (r:List V→Hp→VK→Prop) (t:TA):TE:=fun σ H Q=>t σ H fun vs H1=>r vs H1 Q
theorem ao (hc:ci X (.builtin id) r) (hg:Gl X x) (hm:X.mg x=none) (hv:bootBuiltins x=some (.builtin id)) (ha:PA X (e::es) t) (hn:x≠"__name__":=by decide) (hdb:(x==("__debug__":Str))=false:=by decide)
 (he:starEach (e::es) X.env=(false,eval e X.env)::starEach es X.env:=by rfl) (hpl:(backTo pos (starEach es X.env)).any (·.1)=false:=by rfl):PE X (.Call (.Name x p) (e::es) [] pos) (tCB r t):=by
 intro pins s σ H Q I h
 refine wpAny_Call_Name_kw (ft I hg hm hv ?_ hn hdb)
 exact PyProof.Rows.callWith_builtin1 (thn (ha pos pins s σ H _ I h) fun us s1 ⟨vs,H1,I1,r1,q1⟩=>hc pins s1 σ H1 vs us Q I1 r1 q1) he hpl
theorem bJ (hc:ci X (.type T) r) (hg:Gl X x) (hm:X.mg x=none) (hv:bootBuiltins x=some (.type T)) (ha:PA X (e::es) t) (hn:x≠"__name__":=by decide) (hdb:(x==("__debug__":Str))=false:=by decide)
 (he:starEach (e::es) X.env=(false,eval e X.env)::starEach es X.env:=by rfl) (hpl:(backTo pos (starEach es X.env)).any (·.1)=false:=by rfl):PE X (.Call (.Name x p) (e::es) [] pos) (tCB r t):=by
 intro pins s σ H Q I h
 refine wpAny_Call_Name_kw (ft I hg hm hv ?_ hn hdb)
 exact PyProof.Rows.callWith_type1 (thn (ha pos pins s σ H _ I h) fun us s1 ⟨vs,H1,I1,r1,q1⟩=>hc pins s1 σ H1 vs us Q I1 r1 q1) he hpl
end
end L2
namespace HT
open PySem PyProof.Rows
section
open PySem.SeqAt
open PySem.AutoSeq1 (wpAny_loadPart')
open PySem.MeetsSeq PySem.MeetsSeq2 PySem.MeetsSeq3
end
section
variable {prog:Program} {w:World} {A:Around} {E:Value→Shared→Prop} {s:Shared}
theorem cat_tup {t b:Addr} {vs ws:List Value} {Q:Value→Shared→Prop} (ht:IsTup s.heap t vs.toArray) (hb:IsTup s.heap b ws.toArray) (hv:vs≠ [])
 (h1:ws= []→Q (.ref t) s) (h2:ws≠ []→Q (.ref s.heap.objs.size) {s with heap:=s.heap.push {cls:= .type "tuple",data:= .seq (vs++ws).toArray}})
 (hsz:vs.length+ws.length≤sizeLine):wpAny (model prog w) A (binaryOp .Add (.ref t) (.ref b)) Q E s:=by
 obtain ⟨⟨cls,dd,data,sl⟩,ho,hc,n,hd⟩:=id ht
 obtain ⟨⟨cls2,dd2,data2,sl2⟩,ho2,hc2,n2,hd2⟩:=id hb
 simp only at hc hd hc2 hd2
 subst hc hd hc2 hd2
 have e:vs.toArray++ws.toArray=(vs++ws).toArray:=by simp
 by_cases hw:ws= []
 · exact concat_meets ⟨_,ho,rfl⟩ ⟨_,ho2,rfl⟩ noFill_tuple_add seq_tuple_add PySem.F.slot_tuple_add PySem.F.entry_tuple_add (PySem.F.args_tuple_add_2 _ _)
    (tuple_addW1 t b vs.toArray ws.toArray n n2 dd dd2 sl sl2 (by simpa using hv) (by simp [hw])) ⟨ho,ho2,h1 hw⟩
 · refine concat_meets ⟨_,ho,rfl⟩ ⟨_,ho2,rfl⟩ noFill_tuple_add seq_tuple_add PySem.F.slot_tuple_add PySem.F.entry_tuple_add (PySem.F.args_tuple_add_2 _ _)
    (tuple_addW2 t b vs.toArray ws.toArray n n2 dd dd2 sl sl2 (by simpa using hv) (by simpa using hw) (by rw [yp,yp];exact hsz)) ⟨ho,ho2,?_⟩
   rw [e]
   exact h2 hw
noncomputable def sIx (n d:Nat):Option Int→Nat
 |none=>d
 |some v=>if v < 0 then (v+(n:Int)).toNat else min v.toNat n
theorem sIx_none (n d:Nat):sIx n d none=d:=rfl
theorem sIx_nat (n d k:Nat):sIx n d (some (k:Int))=min k n:=by
 show (if (k:Int) < 0 then ((k:Int)+(n:Int)).toNat else min (k:Int).toNat n)=min k n
 rw [if_neg (by omega),yT]
theorem vJ (n d:Nat) (hd:d≤n) (o:Option Int):sIx n d o≤n:=by
 cases o with
 |none=>exact hd
 |some v=>
  show (if v < 0 then (v+(n:Int)).toNat else min v.toNat n)≤n
  by_cases hv:v < 0
  · rw [if_pos hv];omega
  · rw [if_neg hv];exact Nat.min_le_right _ _
theorem ow (v:Int) (n d:Nat):(if v < 0 then max (v+(n:Int)) 0 else min v (n:Int))=((sIx n d (some v):Nat):Int):=by
 show (if v < 0 then max (v+(n:Int)) 0 else min v (n:Int))=(((if v < 0 then (v+(n:Int)).toNat else min v.toNat n):Nat):Int)
 by_cases hv:v < 0
 · simp only [if_pos hv];omega
 · simp only [if_neg hv];omega
theorem mK (lo hi:Option Int) (n:Nat):Builtin.Slice.sliceAdjust lo hi 1 (n:Int)=(((sIx n 0 lo:Nat):Int),((sIx n n hi:Nat):Int)):=by
 have h1:¬((1:Int) < 0):=by omega
 unfold Builtin.Slice.sliceAdjust
 simp only [h1,if_false]
 refine Prod.ext ?_ ?_
 · cases lo with
   |none=>rfl
   |some v=>exact ow v n 0
 · cases hi with
   |none=>rfl
   |some v=>exact ow v n n
theorem lS (i j:Nat):Builtin.Slice.slicePlaces (i:Int) (j:Int) 1=j - i:=by
 unfold Builtin.Slice.slicePlaces
 have h1:(1:Int) > 0:=by omega
 simp only [h1,if_true,Int.ediv_one]
 split<;>omega
theorem gQ {v:Value} {o:Option Int} {Q:Option Int→Shared→Prop} (p:IsPart v o) (h:Q o s):wpAny (model prog w) A (Builtin.Slice.slicePartIndex v) Q E s:=by
 cases p with
 |none=>exact slicePart_none h
 |int i t=>exact slicePart_int h
theorem sliceApplied_gen {sl:Addr} {vl vu:Value} {lo hi:Option Int} {n:Nat} {Q:Int×Int×Nat→Shared→Prop} (hs:s.heap.IsSliceOf sl vl vu .none) (pl:IsPart vl lo) (pu:IsPart vu hi)
 (h:Q (((sIx n 0 lo:Nat):Int),1,sIx n n hi - sIx n 0 lo) s):wpAny (model prog w) A (Builtin.Slice.sliceApplied (.ref sl) (pure (n:Int))) Q E s:=by
 obtain ⟨os,hos,hcs,hds⟩:=id hs
 unfold Builtin.Slice.sliceApplied Builtin.Slice.sliceFields
 refine wpAny_bind (wpAny_bind (wpAny_field hos hds (x:=vl) rfl (wpAny_bind (wpAny_field hos hds (x:=vu) rfl (wpAny_bind (wpAny_field hos hds (x:= .none) rfl (wpAny_pure ?_)))))))
 refine wpAny_bind (slicePart_none ?_)
 show wpAny _ _ (if ((1:Int)==0)=true then _ else _) _ _ s
 rw [if_neg (by decide)]
 refine wpAny_bind (gQ pl (wpAny_bind (gQ pu (wpAny_bind (wpAny_pure ?_)))))
 show wpAny _ _ (match Builtin.Slice.sliceAdjust lo hi 1 (n:Int) with|(lo,hi)=>pure (lo,(1:Int),Builtin.Slice.slicePlaces lo hi 1)) _ _ s
 rw [mK lo hi n]
 show wpAny _ _ (pure (((sIx n 0 lo:Nat):Int),(1:Int),Builtin.Slice.slicePlaces ((sIx n 0 lo:Nat):Int) ((sIx n n hi:Nat):Int) 1)) _ _ s
 rw [lS]
 exact wpAny_pure h
theorem qG (xs:Array Value) (i k:Nat):((List.range k).filterMap fun (m:Nat)=>xs[((i:Int)+(m:Int)*1).toNat]?).toArray=((xs.toList.drop i).take k).toArray:=by
 have e:(fun (m:Nat)=>xs[((i:Int)+(m:Int)*1).toNat]?)=fun m=>xs[i+m]?:=by
  funext m
  have:((i:Int)+(m:Int)*1).toNat=i+m:=by omega
  rw [this]
 rw [e]
 have:=pick_run xs i k
 rw [List.filterMap_map] at this
 have e2:((fun x=>xs[x]?) ∘ fun x=>i+x)=fun m=>xs[i+m]?:=rfl
 rw [e2] at this
 rw [this]
theorem getItem_tuple_cut {t sl:Addr} {items:Array Value} {vl vu:Value} {lo hi:Option Int} {Q:Value→Shared→Prop} (ht:IsTup s.heap t items) (hs:s.heap.IsSliceOf sl vl vu .none) (pl:IsPart vl lo) (pu:IsPart vu hi)
 (hw:¬(sIx items.size 0 lo=0∧sIx items.size items.size hi=items.size))
 (h:Q (.ref s.heap.objs.size) {s with heap:=s.heap.push {cls:= .type "tuple",data:= .seq ((items.toList.drop (sIx items.size 0 lo)).take (sIx items.size items.size hi - sIx items.size 0 lo)).toArray}})
 (hsz:items.size≤sizeLine):wpAny (model prog w) A (getItem (.ref t) (.ref sl)) Q E s:=by
 have htake:sizeOk (.seq ((items.toList.drop (sIx items.size 0 lo)).take (sIx items.size items.size hi - sIx items.size 0 lo)).toArray):=by
  show ((items.toList.drop (sIx items.size 0 lo)).take (sIx items.size items.size hi - sIx items.size 0 lo)).toArray.size≤sizeLine
  rw [yp,yN,yZ,yy]
  omega
 have hj:sIx items.size items.size hi≤items.size:=vJ _ _ (yl _) hi
 obtain ⟨os,hos,hcs,hds⟩:=id hs
 have hTs:s.TypeIs (.ref sl) "slice":=⟨os,hos,hcs⟩
 unfold getItem
 try with_reducible refine wpAny_holding ?_
 first|refine wpAny_bind (wpAny_pure ?_)|skip
 refine wpAny_bind (wpAny_sequenceKey ht.typeIs (by decide) ?_)
 refine wpAny_bind (wpAny_callSpecial?_slot (name:=Str.ofString "__getitem__") ht.typeIs PyProof.Rows.slot_tuple_getitem
  (wpAny_call_entry PyProof.Rows.slot_tuple_getitem ht.typeIs entry_tuple_getitem ?_ (args_tuple_getitem _ _)))
 show wpAny _ _ (Builtin.Tuple.tupleItemsOf (.ref t) >>=_) _ _ s
 refine wpAny_bind (tupleItemsOf_ ht ?_)
 refine wpAny_bind (wpAny_typeOf hTs ?_)
 rw [if_pos (by decide)]
 refine wpAny_bind (sliceApplied_gen hs pl pu ?_)
 have hno:¬((((sIx items.size 0 lo:Nat):Int)==0&& (1:Int)==1&& (sIx items.size items.size hi - sIx items.size 0 lo)==items.size)=true):=by
  intro q
  rw [yH,yH] at q
  have q1:((sIx items.size 0 lo:Nat):Int)=0:=eq_of_beq q.1.1
  have q2:sIx items.size items.size hi - sIx items.size 0 lo=items.size:=eq_of_beq q.2
  exact hw ⟨by omega,by omega⟩
 show wpAny _ _ (if (((sIx items.size 0 lo:Nat):Int)==0&& (1:Int)==1&& (sIx items.size items.size hi - sIx items.size 0 lo)==items.size)=true then _ else _) _ _ s
 rw [if_neg hno,qG]
 first
  |exact wpAny_bind (m:=Builtin.Tuple.tupleExact _) (wpAny_newObj_type (wpAny_pure ⟨_,rfl,wpAny_pure h⟩) htake)
  |exact wpAny_bind (m:=Builtin.Tuple.tupleExact _) (wpAny_newObj_type (wpAny_bind (wpAny_pure (wpAny_pure ⟨_,rfl,wpAny_pure h⟩))) htake)
  |exact wpAny_bind (wpAny_bind (m:=Builtin.Tuple.tupleExact _) (wpAny_newObj_type (wpAny_pure (wpAny_pure ⟨_,rfl,wpAny_pure h⟩)) htake))
  |exact wpAny_bind (wpAny_bind (m:=Builtin.Tuple.tupleExact _) (wpAny_newObj_type (wpAny_pure ⟨_,rfl,wpAny_pure h⟩) htake))
end
end HT
namespace L2
open PySem PySem.Spec PyProof.Rows
abbrev TO:=St→Hp→(Option Int→Hp→Prop)→Prop
def PO (X:Cx) (e:Option Expr) (t:TO):Prop:=
 ∀(pins:List (Addr×Obj)) (s:Shared) (σ:St) (H:Hp) (Q:Option Int→Hp→Prop),Inv X pins σ H s→t σ H Q→
  wpAny (model X.prog X.w) X.A (evalPart e X.env) (fun u s'=>∃o H',Inv X pins σ H' s'∧IsPart u o∧Q o H') X.xe s
def mY:TO:=fun _ H Q=>Q none H
def uR (t:TE):TO:=fun σ H Q=>t σ H fun x H1=>∃i,x= .int i∧Q (some i) H1
theorem mw {ns:List Int}:∀ {us:List Value},Vals (ns.map V.int) us→IntsAre us ns:=by
 induction ns with
 |nil=>intro us r;rw [List.map_nil] at r;cases r;exact .nil
 |cons n ns ih=>
  intro us r
  rw [yD] at r
  cases r with
  |cons r1 r2=>
   obtain ⟨t,e⟩:=r1
   subst e
   exact .cons n t (ih r2)
section
variable {X:Cx} {e:Expr} {te:TE} {lo hi:Option Expr} {tl th:TO} {pos p2:Pos}
theorem bx:PO X none mY:=by
 intro pins s σ H Q I h
 rw [evalPart_none]
 exact wpAny_pure ⟨none,H,I, .none,h⟩
theorem bf (h:PE X e te):PO X (some e) (uR te):=by
 intro pins s σ H Q I hw
 rw [evalPart_some]
 refine thn (h pins s σ H _ I hw) fun u s1 ⟨x,H1,I1,r1,q1⟩=> ?_
 obtain ⟨i,rfl,q⟩:=q1
 obtain ⟨t,rfl⟩:=r1
 exact ⟨some i,H1,I1, .int i t,q⟩
def SlR (X:Cx) (r:V→Option Int→Option Int→Hp→VK→Prop):Prop:=
 ∀(pins:List (Addr×Obj)) (s:Shared) (σ:St) (H:Hp) (x:V) (v vl vu:Value) (lo hi:Option Int) (sl:Addr) (Q:VK),Inv X pins σ H s→RelV x v→s.heap.IsSliceOf sl vl vu .none→IsPart vl lo→IsPart vu hi→r x lo hi H Q→
  ∃T id,typeLookup (.type T) "__getitem__"=pure (some (.builtin id))∧s.TypeIs v T∧wpAny (model X.prog X.w) X.A (getItem v (.ref sl)) (EP X pins σ Q) X.xe s
def tSl (r:V→Option Int→Option Int→Hp→VK→Prop) (te:TE) (tl th:TO):TE:=fun σ H Q=>te σ H fun x H1=>tl σ H1 fun l H2=>th σ H2 fun u H3=>r x l u H3 Q
theorem b9 {r:V→Option Int→Option Int→Hp→VK→Prop} (hr:SlR X r) (he:PE X e te) (hl:PO X lo tl) (hu:PO X hi th):PE X (.Subscript e (.Slice lo hi none p2) pos) (tSl r te tl th):=by
 intro pins s σ H Q I h
 refine Subscript_ (thn (he pins s σ H _ I h) fun v s1 ⟨x,H1,I1,r1,q1⟩=> ?_)
 refine wpAny_Slice (thn (hl pins s1 σ H1 _ I1 q1) fun vl s2 ⟨l,H2,I2,pl,q2⟩=>thn (hu pins s2 σ H2 _ I2 q2) fun vu s3 ⟨u,H3,I3,pu,q3⟩=> ?_)
 rw [evalPart_none]
 refine wpAny_pure ?_
 have I4:Inv X pins σ H3 {s3 with heap:=s3.heap.push {cls:= .type "slice",data:= .fields #[vl,vu, .none]}}:=I3.kept (t':=s3.toks) fun b ob q=>Heap.get?_push_of_some _ q
 obtain ⟨T,id,hT,ht,hg⟩:=hr pins {s3 with heap:=s3.heap.push {cls:= .type "slice",data:= .fields #[vl,vu, .none]}} σ H3 x v vl vu l u s3.heap.objs.size Q I4 r1 (Heap.IsSliceOf.new ..) pl pu q3
 show wpAny (model X.prog X.w) X.A (subscriptTail e (.Slice lo hi none p2) v (.ref s3.heap.objs.size)) (EP X pins σ Q) X.xe {s3 with heap:=s3.heap.push {cls:= .type "slice",data:= .fields #[vl,vu, .none]}}
 exact tail_any (ops:= [.ref s3.heap.objs.size,v]) ht hT hg (by with_unfolding_all rfl)
noncomputable def cutV (xs:List V) (lo hi:Option Int):List V:=(xs.drop (HT.sIx xs.length 0 lo)).take (HT.sIx xs.length xs.length hi - HT.sIx xs.length 0 lo)
theorem fU (xs:List V) (lo hi:Option Int):(cutV xs lo hi).length≤xs.length:=by
 unfold cutV
 rw [yN,yZ]
 omega
def rSlT (K:PySem.W.Frag):V→Option Int→Option Int→Hp→VK→Prop:=fun x lo hi H Q=>∃a xs,x= .ref a∧SqT K H a xs∧
 ¬(HT.sIx xs.length 0 lo=0∧HT.sIx xs.length xs.length hi=xs.length)∧∀p,H p=none→Q (.ref p) (upd H p (.tup (cutV xs lo hi)))
theorem qd:SlR X (rSlT X.K):=by
 intro pins s σ H x v vl vu lo hi sl Q I rx hs pl pu h
 obtain ⟨a,xs,rfl,hx,hw,q⟩:=h
 cases rx
 obtain ⟨its,r,ht,hz⟩:=I.tuple hx
 have hlen:its.toArray.size=xs.length:=by rw [yp];exact r.length.symm
 refine ⟨"tuple",_,PyProof.Rows.slot_tuple_getitem.lookup,ht.typeIs,?_⟩
 refine HT.getItem_tuple_cut ht hs pl pu (by rw [hlen];exact hw) ?_ (by rw [hlen];exact hz)
 rw [hlen]
 refine ⟨.ref s.heap.objs.size,_,I.laid (t':=s.toks) (o:= .tup (cutV xs lo hi)) (fun b ob q=>Heap.get?_push_of_some _ q) (yl _) ?_,rfl,q _ (I.hok.fresh (yl _))⟩
 exact ⟨yU (fU xs lo hi) hz,_,(r.drop (HT.sIx xs.length 0 lo)).take (HT.sIx xs.length xs.length hi - HT.sIx xs.length 0 lo),IsTup.new _ _⟩
def xq (K:PySem.W.Frag):R2:=fun x y H Q=>∃a b xs ys,x= .ref a∧y= .ref b∧SqT K H a xs∧SqT K H b ys∧xs≠ []∧xs.length+ys.length≤sizeLine∧
 (ys= []→Q (.ref a) H)∧(ys≠ []→∀p,H p=none→Q (.ref p) (upd H p (.tup (xs++ys))))
theorem Vals.nil_iff {xs:List V} {us:List Value} (r:Vals xs us):us= []↔xs= []:=by
 cases r with
 |nil=>simp
 |cons _ _=>simp
theorem tT:OpR X (binaryOp .Add) (xq X.K):=by
 intro pins s σ H x y v u Q I rx ry h
 obtain ⟨a,b,xs,ys,rfl,rfl,ha,hb,hx,hz,q1,q2⟩:=h
 cases rx
 cases ry
 obtain ⟨its,r1,p1,_⟩:=I.tuple ha
 obtain ⟨its2,r2,p2,_⟩:=I.tuple hb
 refine HT.cat_tup p1 p2 (fun z=>hx (r1.nil_iff.mp z)) (fun z=>⟨.ref a,H,I,rfl,q1 (r2.nil_iff.mp z)⟩) (fun z=> ?_) (by rw [←r1.length,←r2.length];exact hz)
 refine ⟨.ref s.heap.objs.size,_,I.laid (t':=s.toks) (o:= .tup (xs++ys)) (fun b ob q=>Heap.get?_push_of_some _ q) (yl _) ?_,rfl,q2 (fun w=>z (r2.nil_iff.mpr w)) _ (I.hok.fresh (yl _))⟩
 exact ⟨by rw [yt];exact hz,_,r1.append r2,IsTup.new _ _⟩
end
open PySem PySem.Spec PyProof.Rows
noncomputable def ixN (n:Nat) (i:Int):Option Nat:=if 0≤i then (if i < n then some i.toNat else none) else if -(n:Int)≤i then some (i+n).toNat else none
noncomputable def atI {α:Type} (xs:List α) (i:Int):Option α:=(ixN xs.length i).bind fun j=>xs[j]?
theorem nQ {n:Nat} {i:Int} {j:Nat} (h:ixN n i=some j):seqIndex? i n=some j∧j < n∧ -(n:Int)≤i∧i < n:=by
 unfold ixN at h
 by_cases h0:0≤i
 · rw [if_pos h0] at h
   by_cases h1:i < n
   · rw [if_pos h1] at h
     have e:i.toNat=j:=yP h
     exact ⟨by rw [seqIndex_of h0 h1,e],by omega,by omega,h1⟩
   · rw [if_neg h1] at h;cases h
 · rw [if_neg h0] at h
   by_cases h1:-(n:Int)≤i
   · rw [if_pos h1] at h
     have e:(i+n).toNat=j:=yP h
     exact ⟨by rw [seqIndex_neg (by omega) h1,e],by omega,h1,by omega⟩
   · rw [if_neg h1] at h;cases h
theorem jJ {α:Type} {xs:List α} {i:Int} {v:α} (h:atI xs i=some v):∃j,seqIndex? i xs.length=some j∧xs[j]?=some v∧j < xs.length∧ -(xs.length:Int)≤i∧i < xs.length:=by
 unfold atI at h
 cases e:ixN xs.length i with
 |none=>rw [e] at h;cases h
 |some j=>
  rw [e] at h
  obtain ⟨h1,h2,h3,h4⟩:=nQ e
  exact ⟨j,h1,h,h2,h3,h4⟩
theorem be {α:Type} {xs:List α} {j:Nat} {v:α} (h:xs[j]?=some v):atI xs (j:Int)=some v:=by
 have hj:j < xs.length:=(yF.mp h).1
 have e:ixN xs.length (j:Int)=some j:=by
  unfold ixN
  rw [if_pos (by omega),if_pos (by omega)];simp
 unfold atI;rw [e];exact h
def uM (b:Expr):Prop:=∀o i,subscripted b false o i=operate [o,i] (getItem o i)
def IxR (X:Cx) (r:R2):Prop:=
 ∀(value slice:Expr) (pins:List (Addr×Obj)) (s:Shared) (σ:St) (H:Hp) (x y:V) (v u:Value) (Q:VK),Inv X pins σ H s→RelV x v→RelV y u→r x y H Q→
  subscripted slice false v u=operate [v,u] (getItem v u)→wpAny (model X.prog X.w) X.A (subscriptTail value slice v u) (EP X pins σ Q) X.xe s
def MtR (X:Cx) (id:String) (r:V→List V→Hp→VK→Prop):Prop:=
 ∀(pins:List (Addr×Obj)) (s:Shared) (σ:St) (H:Hp) (x:V) (xs:List V) (v:Value) (us:List Value) (Q:VK),Inv X pins σ H s→RelV x v→Vals xs us→r x xs H Q→
  wpAny (model X.prog X.w) X.A (call (.builtin id) (v::us)) (EP X pins σ Q) X.xe s
section
variable {X:Cx} {a b:Expr} {ta tb:TE} {pos:Pos}
theorem aq {r:R2} (hr:IxR X r) (ha:PE X a ta) (hb:PE X b tb) (hs:uM b):PE X (.Subscript a b pos) (tOp r ta tb):=by
 intro pins s σ H Q I h
 exact Subscript_ (binT ha hb I h fun v u s2 x y H2 I2 rx ry q=>hr a b pins s2 σ H2 x y v u Q I2 rx ry q (hs _ _))
def rIxL (K:PySem.W.Frag):R2:=fun x y H Q=>∃p xs i v,x= .ref p∧y= .int i∧SqL K H p xs∧atI xs i=some v∧Q v H
def rIxT (K:PySem.W.Frag):R2:=fun x y H Q=>∃p xs i v,x= .ref p∧y= .int i∧SqT K H p xs∧atI xs i=some v∧Q v H
def rIxS:R2:=fun x y H Q=>∃z i c,x= .str z∧y= .int i∧z.length≤sizeLine∧atI z.cps.toList i=some c∧Q (.str ⟨#[c]⟩) H
theorem aO:IxR X (rIxL X.K):=by
 intro value slice pins s σ H x y v u Q I rx ry h hs
 obtain ⟨p,xs,i,z,rfl,rfl,hq,he,q⟩:=h
 cases rx
 obtain ⟨t,rfl⟩:=ry
 obtain ⟨its,r,pl,hz⟩:=I.list hq
 obtain ⟨j,h1,h2,h3,h4,h5⟩:=jJ he
 obtain ⟨w,ew,rw'⟩:=r.get h2
 have hl:=r.length
 have hn:=fq
 have fin:EP X pins σ Q w s:=⟨z,H,I,rw',q⟩
 by_cases h0:0≤i
 · have hj:i.toNat=j:=by
    rw [seqIndex_of h0 h5] at h1
    exact yP h1
   exact item_listR pl.isList h0 (by omega) (by rw [hj];simpa using ew) fin hs
 · have hj:(i+(its.toArray.size:Int)).toNat=j:=by
    rw [seqIndex_neg (by omega) h4] at h1
    rw [yp,←hl]
    exact yP h1
   exact subscriptTail_builtinR (x:=w) pl.isList.typeIs slot_list_getitem.lookup
    (wpAny_getItem_list_neg (Q:=fun r s'=>r=w∧EP X pins σ Q r s') pl.isList (by omega) (by rw [yp]<;>omega) (by omega) (by rw [hj];simpa using ew) ⟨rfl,fin⟩) hs
theorem ar:IxR X (rIxT X.K):=by
 intro value slice pins s σ H x y v u Q I rx ry h hs
 obtain ⟨p,xs,i,z,rfl,rfl,hq,he,q⟩:=h
 cases rx
 obtain ⟨t,rfl⟩:=ry
 obtain ⟨its,r,pl,hz⟩:=I.tuple hq
 obtain ⟨j,h1,h2,h3,h4,h5⟩:=jJ he
 obtain ⟨w,ew,rw'⟩:=r.get h2
 have hl:=r.length
 have hn:=fq
 have fin:EP X pins σ Q w s:=⟨z,H,I,rw',q⟩
 exact subscriptTail_builtinR (x:=w) pl.typeIs slot_tuple_getitem.lookup
  (getItem_tuple (j:=j) (Q:=fun r s'=>r=w∧EP X pins σ Q r s') pl (by omega) (by omega) (by rw [yp,←hl];exact h1) (by simpa using ew) ⟨rfl,fin⟩) hs
theorem rD:IxR X rIxS:=by
 intro value slice pins s σ H x y v u Q I rx ry h hs
 obtain ⟨z,i,c,rfl,rfl,hz,he,q⟩:=h
 obtain ⟨t,rfl⟩:=rx
 obtain ⟨t',rfl⟩:=ry
 obtain ⟨j,h1,h2,h3,h4,h5⟩:=jJ he
 have hl:z.cps.toList.length=z.length:=by simp [Str.length]
 rw [hl] at h1 h4 h5
 have hn:=fq
 exact tail_any (typeIs_str s z t) slot_str_getitem.lookup (getItem_str (c:=c) (by
  have e1:decide (i < -(2^63:Int))=false:=decide_eq_false (by omega)
  have e2:decide (i≥2^63)=false:=decide_eq_false (by omega)
  rw [e1,e2,Bool.or_false]) (by rw [h1];simpa using h2) ⟨.str ⟨#[c]⟩,H,I.tok _,⟨_,rfl⟩,q⟩) hs
theorem mh (its:List Value) (n j:Nat) (u:Value):Obj.mapSeq (·.setIfInBounds j u) {cls:= .type "list",data:= .seq its.toArray n} = {cls:= .type "list",data:= .seq (its.set j u).toArray n}:=by
 simp [Obj.mapSeq]
theorem Inv.lst {pins:List (Addr×Obj)} {σ:St} {H:Hp} {s:Shared} {p:Addr} {xs:List V} (I:Inv X pins σ H s) (h:H p=some (.lst xs)):
 ∃(its:List Value) (n:Nat),Vals xs its∧s.heap.get? p=some {cls:= .type "list",data:= .seq its.toArray n}∧xs.length≤sizeLine:=by
 obtain ⟨z,its,n,r,e⟩:=I.hok p _ h
 exact ⟨its,n,r,e,z⟩
theorem Inv.lstUpd {pins:List (Addr×Obj)} {σ:St} {H:Hp} {s:Shared} {p:Addr} {xs ys:List V} {its its':List Value} {n n':Nat} {f:Obj→Obj} (I:Inv X pins σ H s) (h:H p=some (.lst xs))
 (ho:s.heap.get? p=some {cls:= .type "list",data:= .seq its.toArray n}) (hf:f {cls:= .type "list",data:= .seq its.toArray n} = {cls:= .type "list",data:= .seq its'.toArray n'}) (r:Vals ys its') (hz:ys.length≤sizeLine) (t:Nat):
 Inv X pins σ (upd H p (.lst ys)) {s with heap:=s.heap.update p f,toks:=t}:=by
 have e:(s.heap.update p f).get? p=some {cls:= .type "list",data:= .seq its'.toArray n'}:=by
  rw [Heap.get?_update_self f ho (by rw [hf]<;>rfl),hf]
 refine I.write (x:=p) (e:=p) (by rw [h];trivial) (.inl rfl) (fun b u hb q=>(Heap.get?_update_other _ _ (Ne.symm hb)).trans q) ⟨_,e⟩ ?_
 exact ⟨hz,its',n',r,e⟩
def xo:V→V→V→Hp→(Hp→Prop)→Prop:=fun o i v H Q=>∃p xs k j,o= .ref p∧i= .int k∧H p=some (.lst xs)∧ixN xs.length k=some j∧Q (upd H p (.lst (xs.set j v)))
theorem jV:PSet X xo:=by
 intro pins s σ H o i v ov iv u Q I ro ri rv h
 obtain ⟨p,xs,k,j,rfl,rfl,hp,hj,q⟩:=h
 cases ro
 obtain ⟨t,rfl⟩:=ri
 obtain ⟨its,n,r,ho,hz⟩:=I.lst hp
 obtain ⟨h1,h2,h3,h4⟩:=nQ hj
 have hl:=r.length
 have hn:=fq
 have I':Inv X pins σ (upd H p (.lst (xs.set j v))) {s with heap:=s.heap.update p (Obj.mapSeq (·.setIfInBounds j u))}:=
  I.lstUpd hp ho (mh its n j u) (r.set rv j) (by rw [List.length_set];exact hz) s.toks
 by_cases h0:0≤k
 · have hk:k.toNat=j:=by
    rw [seqIndex_of h0 h4] at h1
    exact yP h1
   exact PySem.W.ki_setAt ho h0 (by omega) (by rw [yp,←hl];exact h4) (by rw [hk];exact ⟨_,I',q⟩)
 · have hk:(k+(its.toArray.size:Int)).toNat=j:=by
    rw [seqIndex_neg (by omega) h3] at h1
    rw [yp,←hl]
    exact yP h1
   exact PySem.W.ki_setBack ho (by omega) (by rw [yp,←hl];exact h3) (by omega) (by rw [hk];exact ⟨_,I',q⟩)
theorem je (lo hi:Option Int) (n:Nat):(sliceBounds lo hi none n).1=((HT.sIx n 0 lo:Nat):Int)∧(sliceBounds lo hi none n).2.1=((HT.sIx n n hi:Nat):Int)∧(sliceBounds lo hi none n).2.2=1:=by
 refine ⟨?_,?_,rfl⟩
 · cases lo with
   |none=>simp [sliceBounds,HT.sIx]
   |some i=>
    simp only [sliceBounds,HT.sIx,Option.getD_none,show (1:Int) > 0 by decide,if_true]
    by_cases h:i < 0
    · simp only [h,if_true]<;>omega
    · simp only [h,if_false]<;>omega
 · cases hi with
   |none=>simp [sliceBounds,HT.sIx]
   |some i=>
    simp only [sliceBounds,HT.sIx,Option.getD_none,show (1:Int) > 0 by decide,if_true]
    by_cases h:i < 0
    · simp only [h,if_true]<;>omega
    · simp only [h,if_false]<;>omega
theorem io (its:List Value) (lo hi:Option Int):slicePick its.toArray lo hi none=((its.drop (HT.sIx its.length 0 lo)).take (HT.sIx its.length its.length hi - HT.sIx its.length 0 lo)).toArray:=by
 obtain ⟨h1,h2,h3⟩:=je lo hi its.toArray.size
 unfold slicePick
 rw [h1,h2,h3]
 simp only [sliceRange_one,pick_run,yp]<;>rfl
def rSlL (K:PySem.W.Frag):V→Option Int→Option Int→Hp→VK→Prop:=fun x lo hi H Q=>∃a xs,x= .ref a∧SqL K H a xs∧∀p,H p=none→Q (.ref p) (upd H p (.lst (cutV xs lo hi)))
theorem jf:SlR X (rSlL X.K):=by
 intro pins s σ H x v vl vu lo hi sl Q I rx hs pl pu h
 obtain ⟨a,xs,rfl,hx,q⟩:=h
 cases rx
 obtain ⟨its,r,ht,hz⟩:=I.list hx
 have hlen:=r.length
 refine ⟨"list",_,slot_list_getitem.lookup,ht.isList.typeIs,?_⟩
 refine wpAny_getItem_list_slice ht.isList hs pl pu .none (by simp) ?_ (by rw [yp]<;>omega)
 rw [io,←hlen]
 refine ⟨.ref s.heap.objs.size,_,I.laid (t':=s.toks) (o:= .lst (cutV xs lo hi)) (fun b ob q=>Heap.get?_push_of_some _ q) (yl _) ?_,rfl,q _ (I.hok.fresh (yl _))⟩
 exact ⟨yU (fU xs lo hi) hz,_,0,(r.drop (HT.sIx xs.length 0 lo)).take (HT.sIx xs.length xs.length hi - HT.sIx xs.length 0 lo),Heap.get?_push_size _ rfl⟩
theorem jo:OpR X (compareOp .NotIn) (fun x y H Q=>∃i j,x= .str i∧y= .str j∧Q (.bl (!(!(Builtin.Str.occurrences j i 0 j.length 1).isEmpty))) H):=by
 intro pins s σ H x y v u Q I rx ry h
 obtain ⟨i,j,rfl,rfl,q⟩:=h
 obtain ⟨t,rfl⟩:=rx
 obtain ⟨t',rfl⟩:=ry
 exact notIn_str ⟨.bl _,H,I,rfl,q⟩
theorem aU:ci X (.builtin "len") (fun xs H Q=>∃p ys,xs= [.ref p]∧(SqL X.K H p ys∨SqT X.K H p ys)∧Q (.int ys.length) H):=by
 intro pins s σ H xs us Q I r h
 obtain ⟨p,ys,rfl,hq,q⟩:=h
 obtain ⟨u,rfl,rx⟩:=dg r
 cases rx
 have hn:=fq
 rcases hq with hq|hq
 · obtain ⟨its,r',pl,hz⟩:=I.list hq
   have hlen:=r'.length
   exact Calls.call_len_list pl.isList (by simp only [yp]<;>omega) ⟨.int ys.length,H,I.tok _,⟨s.toks+1,by rw [yp,hlen]⟩,q⟩
 · obtain ⟨its,r',pl,hz⟩:=I.tuple hq
   have hlen:=r'.length
   exact len_tuple pl (by simp only [yp]<;>omega) ⟨.int ys.length,H,I.tok _,⟨s.toks+1,by rw [yp,hlen]⟩,q⟩
theorem df:ci X (.builtin "len") (fun xs H Q=>∃z,xs= [.str z]∧z.length≤sizeLine∧Q (.int z.length) H):=by
 intro pins s σ H xs us Q I r h
 obtain ⟨z,rfl,hz,q⟩:=h
 obtain ⟨u,rfl,t,rfl⟩:=dg r
 have hn:=fq
 exact len_str (by omega) ⟨.int z.length,H,I.tok _,⟨_,rfl⟩,q⟩
theorem de:ci X (.type "list") (fun xs H Q=>∃p ys,xs= [.ref p]∧(SqL X.K H p ys∨SqT X.K H p ys)∧∀l,H l=none→Q (.ref l) (upd H l (.lst ys))):=by
 intro pins s σ H xs us Q I r h
 obtain ⟨p,ys,rfl,hq,q⟩:=h
 obtain ⟨u,rfl,rx⟩:=dg r
 cases rx
 have fin:∀(its:List Value),Vals ys its→ys.length≤sizeLine→∀(h':Heap) (c':Nat),(∀b o',s.heap.get? b=some o'→h'.get? b=some o')→
  h'.get? s.heap.objs.size=some {cls:= .type "list",dict:=none,data:= .seq its.toArray c',slots:= #[]}→EP X pins σ Q (.ref s.heap.objs.size) {s with heap:=h'}:=fun its r' hz h' c' kp e=>
  ⟨.ref s.heap.objs.size,_,I.laid (t':=s.toks) kp (yl _) (show ObjOk X.prog X.w _ h' _ (.lst ys) from ⟨hz,its,c',r',e⟩),rfl,q _ (I.hok.fresh (yl _))⟩
 rcases hq with hq|hq
 · obtain ⟨its,r',pl,hz⟩:=I.list hq
   have hlen:=r'.length
   obtain ⟨o,ho,hc,n,hd⟩:=pl.isList
   exact call_list_seq p (.inl rfl) ho hc hd (fun h' c' kp e=>fin its r' hz h' c' kp e) (by simp only [yp]<;>omega)
 · obtain ⟨its,r',pl,hz⟩:=I.tuple hq
   have hlen:=r'.length
   obtain ⟨o,ho,hc,n,hd⟩:=pl
   exact call_list_seq p (.inr rfl) ho hc hd (fun h' c' kp e=>fin its r' hz h' c' kp e) (by simp only [yp]<;>omega)
theorem cF:ci X (.type "tuple") (fun xs H Q=>∃p ys,xs= [.ref p]∧((SqL X.K H p ys∧∀l,H l=none→Q (.ref l) (upd H l (.tup ys)))∨(SqT X.K H p ys∧Q (.ref p) H))):=by
 intro pins s σ H xs us Q I r h
 obtain ⟨p,ys,rfl,h⟩:=h
 obtain ⟨u,rfl,rx⟩:=dg r
 cases rx
 rcases h with ⟨hq,q⟩|⟨hq,q⟩
 · obtain ⟨its,r',pl,hz⟩:=I.list hq
   have hlen:=r'.length
   refine call_tuple_list pl.isList (fun h' kp=> ?_) (by simp only [yp]<;>omega)
   have I1:Inv X pins σ H {s with heap:=h'}:=I.kept (t':=s.toks) kp
   have I2:Inv X pins σ (upd H h'.objs.size (.tup ys)) {s with heap:=h'.push {cls:= .type "tuple",data:= .seq its.toArray}}:=
    I1.laid (t':=s.toks) (fun b o e=>Heap.get?_push_of_some _ e) (yl _) (show ObjOk X.prog X.w _ _ _ (.tup ys) from ⟨hz,its,r',IsTup.new _ _⟩)
   exact ⟨.ref h'.objs.size,_,I2,rfl,q _ (I1.hok.fresh (yl _))⟩
 · obtain ⟨its,r',pl,hz⟩:=I.tuple hq
   exact call_tuple_same pl ⟨.ref p,H,I,rfl,q⟩
def tyV (K:PySem.W.Frag) (T:String) (x:V) (H:Hp):Prop:=match x with
 | .str _=>T= "str"
 | .int _=>T= "int"
 | .ref p=>(T= "list"∧∃xs,SqL K H p xs)∨(T= "tuple"∧∃o,K.lookup p=some o∧o.cls= .type "tuple"∧o.dict=none)∨
  (T= "dict"∧((∃kvs,H p=some (.dK kvs))∨∃kvs,H p=some (.dT kvs)))∨(T= "set"∧∃S n,H p=some (.set S n))
 |_=>False
theorem pB {pins:List (Addr×Obj)} {σ:St} {H:Hp} {s:Shared} {T:String} {x:V} {v:Value} (I:Inv X pins σ H s) (r:RelV x v) (ty:tyV X.K T x H):
 s.TypeIs v T∧∀a,v= .ref a→∃ob,s.heap.get? a=some ob∧ob.dict=none:=by
 cases x with
 |str z=>
  obtain ⟨t,rfl⟩:=r
  cases (show T= "str" from ty)
  exact ⟨typeIs_str s z t,fun _ e=>nomatch e⟩
 |int i=>
  obtain ⟨t,rfl⟩:=r
  cases (show T= "int" from ty)
  exact ⟨typeIs_int s i t,fun _ e=>nomatch e⟩
 |ref p=>
  cases r
  rcases ty with ⟨rfl,xs,hq⟩|⟨rfl,o,hk,hc,hd⟩|⟨rfl,hk⟩|⟨rfl,S,n,hk⟩
  · obtain ⟨its,_,pl,_⟩:=I.list hq
    refine ⟨pl.isList.typeIs,fun a e=> ?_⟩
    cases e
    obtain ⟨o,n,e,c,hd,_⟩:=pl
    exact ⟨o,e,hd⟩
  · refine ⟨⟨o,I.kIn p o hk,hc⟩,fun a e=> ?_⟩
    cases e
    exact ⟨o,I.kIn _ o hk,hd⟩
  · have z:∃o,s.heap.get? p=some o∧o.ExactDict:=by
     rcases hk with ⟨kvs,hk⟩|⟨kvs,hk⟩
     · obtain ⟨_,_,_,_,o,_,_,e,ex,_⟩:=I.hok p _ hk
       exact ⟨o,e,ex⟩
     · obtain ⟨_,_,_,_,o,_,_,e,ex,_⟩:=I.hok p _ hk
       exact ⟨o,e,ex⟩
    obtain ⟨o,e,ex⟩:=z
    refine ⟨⟨o,e,ex.1⟩,fun a e2=> ?_⟩
    cases e2
    exact ⟨o,e,ex.2.1⟩
  · obtain ⟨o,_,_,_,e,ex,_⟩:=I.hok p _ hk
    refine ⟨⟨o,e,ex.1⟩,fun a e2=> ?_⟩
    cases e2
    exact ⟨o,e,ex.2.1⟩
 |_=>exact False.elim ty
def tBM0 (K:PySem.W.Frag) (T:String) (r:V→List V→Hp→VK→Prop) (to:TE):TE:=fun σ H Q=>to σ H fun x H1=>tyV K T x H1∧r x [] H1 Q
def tBM (K:PySem.W.Frag) (T:String) (r:V→List V→Hp→VK→Prop) (to:TE) (t:TA):TE:=fun σ H Q=>to σ H fun x H1=>tyV K T x H1∧t σ H1 fun xs H2=>r x xs H2 Q
variable {o e:Expr} {es:List Expr} {to:TE} {t:TA} {name:Str} {apos cpos:Pos} {T id:String} {r:V→List V→Hp→VK→Prop}
theorem ji (pa:PlainAttrs T) (slot:Slot T name id) (hty:typeOf (.builtin id)=pure (.type "method_descriptor")) (hm:MtR X id r) (ho:PE X o to)
 (hbase:attributeBase o name X.env (eval o X.env)=eval o X.env:=by rfl) (hline:(apos.endLine==cpos.line)=true:=by rfl):PE X (.Call (.Attribute o name apos) [] [] cpos) (tBM0 X.K T r to):=by
 intro pins s σ H Q I h
 refine wpAny_Call_method0_late hbase hline (thn (ho pins s σ H _ I h) fun v s1 ⟨x,H1,I1,r1,ty,q1⟩=> ?_)
 obtain ⟨h1,h2⟩:=pB I1 r1 ty
 exact ⟨T,id,pa,slot,hty,h1,h2,Calls.callWith_builtin rfl (PySem.evalArgs_none (hm pins s1 σ H1 x [] v [] Q I1 r1 .nil q1))⟩
theorem nr (pa:PlainAttrs T) (slot:Slot T name id) (hty:typeOf (.builtin id)=pure (.type "method_descriptor")) (hm:MtR X id r) (ho:PE X o to) (ha:PA X (e::es) t)
 (hbase:attributeBase o name X.env (eval o X.env)=eval o X.env:=by rfl)
 (hfew:((backTo cpos (starEach (e::es) X.env)).all (fun x=> !x.1)&& (backToKw cpos (keywordEach [] X.env)).all (fun x=>x.1.isSome)
  &&decide ((e::es).length+([]:List Keyword).length+(if ([]:List Keyword).isEmpty then 0 else 1) < 30))=true:=by rfl)
 (hline:(apos.endLine==cpos.line)=true:=by rfl) (hs:starEach (e::es) X.env=(false,eval e X.env)::starEach es X.env:=by rfl) (hplain:(backTo cpos (starEach es X.env)).any (·.1)=false:=by rfl):
 PE X (.Call (.Attribute o name apos) (e::es) [] cpos) (tBM X.K T r to t):=by
 intro pins s σ H Q I h
 refine wpAny_Call_method_late hbase hfew hline rfl (thn (ho pins s σ H _ I h) fun v s1 ⟨x,H1,I1,r1,ty,q1⟩=> ?_)
 obtain ⟨h1,h2⟩:=pB I1 r1 ty
 refine ⟨T,id,pa,slot,hty,h1,h2,?_⟩
 have hA:=ha cpos pins s1 σ H1 _ I1 q1
 rw [hs] at hA ⊢
 refine Calls.callWith_builtin (by show (false ||(backTo cpos (starEach es X.env)).any (·.1))=false;rw [hplain]<;>rfl) (Calls.evalArgs_plain ?_)
 exact thn hA fun us s2 ⟨vs,H2,I2,r2,q2⟩=>hm pins s2 σ H2 x vs v us Q I2 r1 r2 q2
end
open PySem PySem.Spec PyProof.Rows
def MtM (X:Cx) (id:String) (r:V→List V→Hp→VK→Prop):Prop:=
 ∀(pins:List (Addr×Obj)) (s:Shared) (σ:St) (H:Hp) (x:V) (xs:List V) (v:Value) (us:List Value) (Q:VK),Inv X pins σ H s→RelV x v→Vals xs us→r x xs H Q→
  wpAny (model X.prog X.w) X.A (call (.builtin id) (v::us)) (EP X pins σ Q) X.xe s
theorem Vals.one:∀ {x:V} {us:List Value},Vals [x] us→∃u,us= [u]∧RelV x u
 |_,_, .cons r .nil=>⟨_,rfl,r⟩
theorem Vals.two {x y:V} {us:List Value} (h:Vals [x,y] us):∃u v,us= [u,v]∧RelV x u∧RelV y v:=by
 cases h with
 |cons r t=>cases t with
  |cons q t'=>cases t';exact ⟨_,_,rfl,r,q⟩
theorem Vals.zero:∀ {us:List Value},Vals [] us→us= []
 |_, .nil=>rfl
theorem Vals.eraseIdx:∀ {xs:List V} {us:List Value} (i:Nat),Vals xs us→Vals (xs.eraseIdx i) (us.eraseIdx i)
 |_,_,_, .nil=> .nil
 |_,_,0, .cons _ t=>t
 |_,_,i+1, .cons r t=> .cons r (Vals.eraseIdx i t)
theorem Vals.reverse {xs:List V} {us:List Value} (h:Vals xs us):Vals xs.reverse us.reverse:=by
 induction h with
 |nil=>exact .nil
 |cons r t ih=>rw [List.reverse_cons,List.reverse_cons];exact Vals.append ih (.cons r .nil)
section
variable {X:Cx} {pins:List (Addr×Obj)} {σ:St} {H:Hp} {s:Shared} {l b:Addr} {xs ys zs:List V}
theorem Inv.lset {its its':List Value} {n:Nat} {f:Array Value→Array Value} {t':Nat} (I:Inv X pins σ H s) (hH:H l=some (.lst xs))
 (e:s.heap.get? l=some {cls:= .type "list",data:= .seq its.toArray n}) (hf:f its.toArray=its'.toArray) (hv:Vals ys its') (hz:ys.length≤sizeLine):
 Inv X pins σ (upd H l (.lst ys)) {s with heap:=s.heap.update l (Obj.mapSeq f),toks:=t'}:=by
 have q:=PySem.IsL.update e f
 rw [hf] at q
 refine I.write (x:=l) (e:=l) (by rw [hH];exact trivial) (.inl rfl) (fun b' u hb hu=>(Heap.get?_update_other s.heap (Obj.mapSeq f) (Ne.symm hb)).trans hu) ⟨_,q⟩ ?_
 exact ⟨hz,its',_,hv,q⟩
theorem Inv.lnew {its:List Value} {t':Nat} (I:Inv X pins σ H s) (hv:Vals ys its) (hz:ys.length≤sizeLine):
 Inv X pins σ (upd H s.heap.objs.size (.lst ys)) {s with heap:=s.heap.push {cls:= .type "list",data:= .seq its.toArray},toks:=t'}:=
 I.laid (fun _ _ q=>Heap.get?_push_of_some _ q) (yl _) ⟨hz,its,0,hv,Heap.get?_push_size _ rfl⟩
theorem Inv.fresh (I:Inv X pins σ H s):H s.heap.objs.size=none:=I.hok.fresh (yl _)
theorem Inv.lstM (I:Inv X pins σ H s) (hH:H l=some (.lst xs)):xs.length≤sizeLine∧∃(its:List Value) (n:Nat),Vals xs its∧xs.length=its.length∧s.heap.get? l=some {cls:= .type "list",data:= .seq its.toArray n}:=by
 obtain ⟨z,its,n,r,e⟩:=I.hok l _ hH
 exact ⟨z,its,n,r,r.length,e⟩
end
section
variable {X:Cx}
def tE:V→List V→Hp→VK→Prop:=fun x vs H Q=>∃l xs y,x= .ref l∧vs= [y]∧H l=some (.lst xs)∧xs.length < sizeLine∧Q .non (upd H l (.lst (xs++ [y])))
theorem dB:MtM X "list.append" tE:=by
 intro pins s σ H x vs v us Q I rx rv h
 obtain ⟨l,xs,y,rfl,rfl,hH,hz,q⟩:=h
 cases rx
 obtain ⟨u,rfl,ru⟩:=rv.one
 obtain ⟨z,its,n,r,hl,e⟩:=I.lstM hH
 refine call_meets F.slot_list_append ⟨_,e,rfl⟩ F.entry_list_append (F.args_list_append_2 _ _) (PySem.list_append l its.toArray n u (by rw [yp];omega)) ⟨e,?_⟩
 refine ⟨.non,_,I.lset (its':=its++ [u]) hH e (by simp) (r.append (.cons ru .nil)) ?_,rfl,q⟩
 rw [yt,yJ]
 omega
def rCat:R2:=fun x y H Q=>∃l b xs zs,x= .ref l∧y= .ref b∧H l=some (.lst xs)∧H b=some (.lst zs)∧xs.length+zs.length≤sizeLine∧∀p,H p=none→Q (.ref p) (upd H p (.lst (xs++zs)))
theorem lX:OpR X (binaryOp .Add) rCat:=by
 intro pins s σ H x y v u Q I rx ry h
 obtain ⟨l,b,xs,zs,rfl,rfl,hH,hB,hz,q⟩:=h
 cases rx
 cases ry
 obtain ⟨z,its,n,r,hl,e⟩:=I.lstM hH
 obtain ⟨z2,its2,n2,r2,hl2,e2⟩:=I.lstM hB
 refine PySem.P.add_list e e2 ?_ (by rw [yp,yp];omega)
 have ea:its.toArray++its2.toArray=(its++its2).toArray:=by simp
 rw [ea]
 exact ⟨.ref _,_,I.lnew (t':=s.toks) (r.append r2) (by rw [yt];omega),rfl,q _ I.fresh⟩
end
section
variable {prog:Program} {w:World} {A:Around} {E:Value→Shared→Prop} {s:Shared}
end
section
variable {X:Cx}
end
end L2
namespace Att
open PySem PySem.W PySem.Calls PyProof.Rows
theorem fV {P:Params} {h:Heap}:∀(ns:List Int) (vs:List Value),WellAll P h vs (ns.map WData.int)→IntsAre vs ns:=by
 intro ns
 induction ns with
 |nil=>
  intro vs w
  rw [List.map_nil] at w
  cases w
  exact .nil
 |cons n ns ih=>
  intro vs w
  rw [yD] at w
  cases w with
  |cons a b=>
   cases a
   exact .cons _ _ (ih _ b)
theorem oS {l:OpenLaw} {n:Nat} (hn:l.most=some n) {P:Params} {h:Heap} {args:List WData} {vals:List Value}
 (hpre:l.row.toRowW.claim.pre args=true) (hwl:WellAll P h vals args):
 ∃a vs ns,vals= [Value.ref a]∧args= [WData.list (ns.map WData.int)]∧h.get? a=some {cls:= .type "list",data:= .seq vs.toArray}∧IntsAre vs ns∧ns.length≤n:=by
 have hsh:WShape.hasAll [] args [.list .int]=true:=(pre_splitW hpre).1
 have hc:l.pre.holds [] {args:=args} =true:=(pre_splitW hpre).2
 obtain ⟨d,r,rfl,h1,h2⟩:=hasAllW_cons hsh
 obtain rfl:=hasAllW_nil h2
 obtain ⟨xs,rfl,h3⟩:=hasW_list h1
 obtain ⟨ns,rfl⟩:=items_int h3
 have hlen:ns.length≤n:=by
  unfold OpenLaw.pre at hc
  have h4:(WTm.not (.lt (.lit (.int (n:Int))) (.len (.arg 0)))).holds [] {args:= [.list (ns.map .int)]} =true:=by
   have h4:=(holds_andW hc).1
   rw [hn] at h4
   exact h4
  have h5:=condW_of h4 (w_not (w_lt w_lit (w_len_list (w_arg rfl))))
  rw [yo] at h5
  refine Nat.le_of_not_lt fun q=> ?_
  have q':(n:Int) < ((ns.length:Nat):Int):=by omega
  first
   |(rw [decide_eq_true q'] at h5;exact absurd h5 (by decide))
   |(simp at h5;omega)
 cases hwl with
 |cons w1 w2=>
  cases w2
  cases w1 with
  |list ho hall=>exact ⟨_,_,ns,rfl,rfl,ho,fV ns _ hall,hlen⟩
theorem oV (l:OpenLaw) (args:List WData):l.row.toRowW.claim.post args (.bool true) args=true:=
 postW_of (r:=l.row.toRowW) (X:=(true==true))
  (show WShape.has [] (.bool true) .bool=true by first|rfl|decide|simp [WShape.has,WShape.arms,WShape.armsAll])
  (show (WTm.eq .res (.lit (.bool true))).value [] {args:=args,res:=some (.bool true),after:=args} =some (.bool (true==true)) from w_eq_bool (w_res rfl) w_lit) rfl
theorem attach_call {l:OpenLaw} {n:Nat} {q:Program} {loose:List Str} {XP:(Str→Option Value)→Heap→Prop} {YP:World→Heap→Prop} {d:DefRec}
 (hn:l.most=some n) (hdf:d.params.defaults= [])
 (call:∀(w:World) (s₀ s₁:Shared) (mg mb:Str→Option Value) (fa:Addr) (o:Obj) (pm cd doc:Value) (a:Addr) (vs:List Value) (ns:List Int),
  Ground q loose [] XP w s₀ mg mb s₁.heap→YP w s₁.heap→
  s₁.heap.get? fa=some o→o.data= .func (docDef d.name d.params d.body d.scope pm cd doc)→s₁.heap.CodeRec cd d.name→mg d.name=some (.ref fa)→
  s₁.heap.get? a=some {cls:= .type "list",data:= .seq vs.toArray}→IntsAre vs ns→ns.length≤n→s₁.gens= #[]→
  codeAny (model l.prog w) callerA (.call (.ref fa) ⟨[.ref a],[]⟩) (fun r s'=>r= .ok (.ret (.bool true))∧OldK s₁.heap s'.heap∧s'.os=s₁.os∧AllBare s'.gens) s₁):
 WalkO q loose XP YP l.row.toRowW d [] (fun f vs=>PySem.call f vs):=by
 intro w s₀ s₁ mg mb G Y fa o pm cd doc dV kV ho hd hcd hD hmg hg args vals as hpre hlay hrd hwl hlo
 obtain rfl:dV= .none:=Dflts.none hD hdf
 obtain rfl:kV= .none:=Dflts.noKw hD
 obtain ⟨a,vs,ns,rfl,rfl,hobj,hints,hlen⟩:=oS hn hpre hwl
 refine enter_call (codeAny_mono (call w s₀ s₁ mg mb fa o pm cd doc a vs ns G Y ho (fd_plain hd) hcd hmg hobj hints hlen hg) fun r s' hq=> ?_)
 obtain ⟨rfl,h2,h3,h4⟩:=hq
 exact ⟨.inl ⟨.bool true, .bool true,[],rfl,fun _=>rfl, .bool true,oV l _,fun _=>⟨List.Pairwise.nil,fun _ hm=>(nomatch hm)⟩⟩,h2,h3,h4⟩
section
variable {prog:Program} {w:World} {A:Around} {E:Value→Shared→Prop} {s:Shared} {K:Frag}
end
end Att
namespace L2
open PySem PySem.Spec PyProof.Rows
theorem ir:∀ {vs:List Value} {ns:List Int},IntsAre vs ns→Vals (ns.map V.int) vs
 |_,_, .nil=> .nil
 |_,_, .cons n t h=> .cons ⟨t,rfl⟩ (ir h)
def Only (H:Hp):Prop:=∀b,H b=none∨∃o xs,H b=some (.frz o (.lst xs))
theorem rj {P:Program} {w:World} {K:PySem.W.Frag} {mg mb:Str→Option Value} {CX:CXT} {k:Nat} {fa a:Addr} {fd:FuncData} {x:Str} {sp:Sp} {s₁:Shared} {vs:List Value} {ns:List Int}
 (KX:K.In s₁.heap) (hns:s₁.heap.Ns mainGlobals mg) (hb:s₁.heap.Ns builtinsNs mb) (hbb:∀x:Str,x≠"__name__"→mb x=bootBuiltins x) (hlim:s₁.heap.NoLimit) (hg:s₁.gens= #[])
 (ha:s₁.heap.get? a=some {cls:= .type "list",data:= .seq vs.toArray}) (hi:IntsAre vs ns) (hl:ns.length≤sizeLine) (hr:Room k callerA)
 (F:∀base:Heap,K.In base→base.Ns mainGlobals mg→FnOk P w K mg base CX k fa fd [x] sp) (hbind:∀(s:Shared) (u:Value),BindsTo s fd ⟨[u],[]⟩ [(x,u)])
 (hsp:∀H:Hp,Only H→SqL K H a (ns.map V.int)→sp [.ref a] H (fun v _=>v= .bl true) fun _ _ _=>False)
 (hCX:∀H e s',CX [] H s₁ (fun _ _ _=>False) e s'→False):
 codeAny (model P w) callerA (.call (.ref fa) ⟨[.ref a],[]⟩) (fun r s'=>r= .ok (.ret (.bool true))∧OldK s₁.heap s'.heap∧s'.os=s₁.os∧AllBare s'.gens) s₁:=by
 have rv:=ir hi
 have lenV:=hi.length
 have core:∀H:Hp,Only H→SqL K H a (ns.map V.int)→HOk P w H s₁.heap→(∀b,H b≠none→b=a)→(H a≠none→K.lookup a=none)→
  codeAny (model P w) callerA (.call (.ref fa) ⟨[.ref a],[]⟩) (fun r s'=>r= .ok (.ret (.bool true))∧OldK s₁.heap s'.heap∧s'.os=s₁.os∧AllBare s'.gens) s₁:=by
  intro H hO hS hok hA hK
  have base_of:∀ {b:Addr} {o:Obj},s₁.heap.get? b=some o→H b=none→(hidT s₁.heap H).get? b=some o:=fun e n=>rF e n
  have noA:∀ {b:Addr} {o:Obj} {es:Array DictEntry} {ep:Nat},s₁.heap.get? b=some o→o.data= .dict es ep→H b=none:=fun {b o es ep} e d=>by
   cases q:H b with
   |none=>rfl
   |some u=>
    have e':b=a:=hA b (by rw [q];simp)
    subst e'
    rw [ha] at e;cases e
    have d':Data.seq vs.toArray _=Data.dict es ep:=d
    cases d'
  have nsK:∀ {b:Addr} {m:Str→Option Value},s₁.heap.Ns b m→(hidT s₁.heap H).Ns b m:=fun {b m} ⟨o,es,ep,e,d,r⟩=>⟨o,es,ep,base_of e (noA e d),d,r⟩
  have hKb:K.In (hidT s₁.heap H):=fun b o e=>base_of (KX b o e) (by
   cases q:H b with
   |none=>rfl
   |some u=>
    have e':b=a:=hA b (by rw [q];simp)
    subst e'
    rw [hK (by rw [q];simp)] at e;cases e)
  have hM:Mod K mg (hidT s₁.heap H):=⟨hKb,nsK hns,⟨mb,nsK hb,hbb⟩,let ⟨mc,h1,h2⟩:=hlim;⟨mc,nsK h1,h2⟩⟩
  have e0:Env0 P w K mg (hidT s₁.heap H) callerA [] s₁ H:=⟨rfl,hM,fun b o e=>⟨(nF e).1, .inl (nF e).2⟩,Nat.le_of_eq (pc _ _),trivial,fun b hb=>absurd (show b∈([]:List Addr) from hb) (by simp),hok, .of_eq hg⟩
  refine codeAny_mono ((F _ hKb (nsK hns)).run callerA [] s₁ H ⟨[.ref a],[]⟩ [.ref a] [.ref a] _ _ hr e0 (hbind s₁ (.ref a)) (.cons rfl .nil) (hsp H hO hS)) fun r s' h=> ?_
  cases r with
  |error e=>exact (hCX H e s' h).elim
  |ok fl=>
   cases fl with
   |next=>exact False.elim h
   |brk=>exact False.elim h
   |cont=>exact False.elim h
   |ret u=>
    obtain ⟨v,H',os,bare,un,hok',r',q⟩:=h
    have q':v= .bl true:=q
    subst q'
    obtain rfl:u=Value.bool true:=r'
    refine ⟨rfl,OldK.of_keep fun b o e=> ?_,os,bare⟩
    cases q:H b with
    |none=>exact un.keep b o e (.inl q) (by intro z;exact absurd (show b∈([]:List Addr) from z) (by simp)) (by simp)
    |some u=>
     rcases hO b with z|⟨ob,xs,z⟩
     · rw [q] at z;cases z
     · have z2:=un.frzs b ob _ z
       obtain ⟨e1,_⟩:=hok b _ z
       obtain ⟨e2,_⟩:=hok' b _ z2
       rw [e] at e1;cases e1
       exact e2
 cases hk:K.lookup a with
 |some o=>
  have e:=KX a o hk
  rw [ha] at e
  cases e
  refine core (fun _=>none) (fun _=> .inl rfl) (.inr ⟨_,vs.toArray,_,hk,rfl,rfl,rfl,by rw [yp,lenV];exact hl,by simpa using rv⟩) (fun b u z=>by have z':(none:Option HO)=some u:=z;cases z') (fun b z=>absurd rfl z) fun z=>absurd rfl z
 |none=>
  refine core (fun b=>if b=a then some (.frz {cls:= .type "list",data:= .seq vs.toArray} (.lst (ns.map V.int))) else none) (fun b=> ?_) (.inl (.inr ⟨{cls:= .type "list",data:= .seq vs.toArray},if_pos rfl⟩)) (fun b u z=> ?_) (fun b z=> ?_) fun _=>hk
  · by_cases hb:b=a
    · exact .inr ⟨_,_,if_pos hb⟩
    · exact .inl (if_neg hb)
  · by_cases hb:b=a
    · have z':=(if_pos hb).symm.trans z
      cases z'
      subst hb
      exact ⟨ha,by rw [yo];exact hl,vs,_,rv,ha⟩
    · have z':=(if_neg hb).symm.trans z
      cases z'
  · by_cases hb:b=a
    · exact hb
    · exact absurd (if_neg hb) z
open PySem PySem.Spec PyProof.Rows
theorem walk_of {l:PySem.W.OpenLaw} {n k:Nat} {q:Program} {loose:List Str} {XP:(Str→Option Value)→Heap→Prop} {YP:World→Heap→Prop} {d:DefRec} {K:Params→PySem.W.Frag} {CX:World→CXT} {sp:World→Sp} {x:Str}
 (hn:l.most=some n) (hn2:n≤sizeLine) (hdf:d.params.defaults= []) (hr:Room k callerA)
 (hY:∀(w:World) (h:Heap),YP w h→(K w.params).In h)
 (F:∀(w:World) (mg:Str→Option Value) (fa:Addr) (h:Heap),(K w.params).In h→h.Ns mainGlobals mg→mg d.name=some (.ref fa)→
  ∃fd:FuncData,(∀(s:Shared) (u:Value),BindsTo s fd ⟨[u],[]⟩ [(x,u)])∧
   ∀base:Heap,(K w.params).In base→base.Ns mainGlobals mg→FnOk l.prog w (K w.params) mg base (CX w) k fa fd [x] (sp w))
 (hsp:∀(w:World) (H:Hp) (a:Addr) (ns:List Int),ns.length≤n→Only H→SqL (K w.params) H a (ns.map V.int)→sp w [.ref a] H (fun v _=>v= .bl true) fun _ _ _=>False)
 (hCX:∀(w:World) (H:Hp) (s:Shared) (e:Value) (s':Shared),CX w [] H s (fun _ _ _=>False) e s'→False):
 PySem.W.WalkO q loose XP YP l.row.toRowW d [] (fun f vs=>PySem.call f vs):=by
 refine Att.attach_call hn hdf fun w s₀ s₁ mg mb fa o pm cd doc a vs ns G Y ho hd hcd hmg hobj hints hlen hg=> ?_
 have KX:=hY w _ Y
 obtain ⟨fd,hb,hF⟩:=F w mg fa _ KX G.T.g hmg
 exact rj KX G.T.g G.T.b G.T.builtins G.T.nolimit hg hobj hints (yU hlen hn2) hr hF hb (fun H hO hS=>hsp w H a ns hlen hO hS) fun H e s'=>hCX w H s₁ e s'
open PySem PySem.Spec PyProof.Rows
noncomputable def um (s:Stmt) (j:Nat):Stmt:=match s with
 | .ClassDef _ _ _ body _ _ _ _ _ _ _=>body.getD j (.Pass ⟨0,0,0,0⟩)
 |_=> .Pass ⟨0,0,0,0⟩
noncomputable def ay (s:Stmt):Arguments:=match s with
 | .FunctionDef _ a _ _ _ _ _ _ _ _=>a
 |_=> {posonlyargs:= [],args:= [],vararg:=none,kwonlyargs:= [],kw_defaults:= [],kwarg:=none,defaults:= []}
noncomputable def au (s:Stmt):List Stmt:=match s with
 | .FunctionDef _ _ b _ _ _ _ _ _ _=>b
 |_=> []
noncomputable def ag (s:Stmt):Scope:=match s with
 | .FunctionDef _ _ _ _ _ _ sc _ _ _=>sc
 |_=> {kind:= .function,names:= [],isGenerator:=false,isCoroutine:=false}
abbrev CX0:CXT:=fun _ _ _ _ _ _=>False
abbrev E0:XK:=fun _ _ _=>False
theorem aj {X:Cx}:ik CX0 X E0:=fun _ _ _ _ _ _ _ h=>h.elim
structure Fun (K:PySem.W.Frag) (x qual:Str) (st:Stmt) (f:Addr) (fd:FuncData):Prop where
 ex:∃(oc:Value) (od:Option Addr) (kV doc pm:Value) (an:Option Addr) (cdv ct:Value) (osl:Array (Option Value)),
  fd=PySem.W.fnOf x qual (ay st) (au st) (ag st) .none kV doc pm an cdv ct∧K.lookup f=some ⟨oc,od, .func fd,osl⟩∧PySem.W.codeIn K cdv qual=true
 kp:PySem.W.keepIn K (.ref f)=true
section
variable {P:Program} {w:World} {K:PySem.W.Frag} {mg:Str→Option Value} {base:Heap}
theorem Fun.ok {x qual:Str} {st:Stmt} {f:Addr} {fd:FuncData} {N ps:List Str} {k:Nat} {sp:Sp} (F:Fun K x qual st f fd) (S:az N ps (ag st)) (len:∀vs H Q E,sp vs H Q E→vs.length=ps.length)
 (hbody:∀(cdv:Value) (A:Around) (outer:List Env) (s:Shared) (H:Hp) (vs:List V) (Q:VK) (E:XK),Room k (A.deeper (envOfC qual (ag st) s.heap.objs.size f cdv))→sp vs H Q E→
  ∃t,PSs (cxOf CX0 P w K mg base N qual (ag st) f cdv A outer s H E).nox (au st) t∧t {nx:=fun _ H'=>Q .non H',rt:=Q} (eM N vs) H):FnOk P w K mg base CX0 (k+1) f fd ps sp:=by
 obtain ⟨oc,od,kV,doc,pm,an,cdv,ct,osl,rfl,lk,hcd⟩:=F.ex
 refine vh lk hcd S len fun A outer s H vs Q E hr hsp=> ?_
 obtain ⟨t,h,q⟩:=hbody cdv A outer s H vs Q E hr hsp
 exact ⟨t,h.nox,q⟩
theorem Fun.binds {x qual:Str} {st:Stmt} {f:Addr} {fd:FuncData} {ps:List Str} (F:Fun K x qual st f fd)
 (h:∀(kV doc pm:Value) (an:Option Addr) (cdv ct:Value) (us:List Value),us.length=ps.length→bindArgs (PySem.W.fnOf x qual (ay st) (au st) (ag st) .none kV doc pm an cdv ct) ⟨us,[]⟩=pure (ps.zip us)):Binds K fd ps []:=by
 obtain ⟨oc,od,kV,doc,pm,an,cdv,ct,osl,rfl,lk,hcd⟩:=F.ex
 exact .all (h kV doc pm an cdv ct)
theorem aL {x qual:Str} {st:Stmt} {f:Addr} {oc:Value} {od an:Option Addr} {osl:Array (Option Value)} {kV doc pm cdv ct:Value} (l:K.lookup f=some ⟨oc,od, .func (PySem.W.fnOf x qual (ay st) (au st) (ag st) .none kV doc pm an cdv ct),osl⟩)
 (c:PySem.W.codeIn K cdv qual=true) (k:PySem.W.keepIn K (.ref f)=true):Fun K x qual st f (PySem.W.fnOf x qual (ay st) (au st) (ag st) .none kV doc pm an cdv ct):=⟨⟨oc,od,kV,doc,pm,an,cdv,ct,osl,rfl,l,c⟩,k⟩
end
theorem i5 {A:Around} {k:Nat} (hr:Room k A):A.units+1 < cLine:=yG (yW (by decide:1≤64) _) hr.units
theorem iz {n:Nat} (h:n≤1000):n < sizeLine:=yG h (by decide)
section
variable {X:Cx}
theorem pv (i:Nat) {x:Str} {pos:Pos} (hN:X.N[i]?=some x:=by rfl) (hv:Vis X.env.scope x:=by first|exact Or.inl rfl|exact Or.inr (Or.inl rfl)|exact Or.inr (Or.inr rfl)) (hd:(x==("__debug__":Str))=false:=by decide)
 (hcd:(x==("__classdict__":Str))=false:=by decide):PE X (.Name x pos) (tVar i):=vU hN hv hd hcd
end
theorem iteF {A B:Prop} (h:B):if false=true then A else B:=by
 rw [if_neg yI]
 exact h
theorem iteT {A B:Prop} (h:A):if true=true then A else B:=by
 rw [if_pos rfl]
 exact h
theorem ite2 {c A B:Prop} [Decidable c] (h1:c→A) (h2:¬c→B):if c then A else B:=by
 by_cases h:c
 · rw [if_pos h]
   exact h1 h
 · rw [if_neg h]
   exact h2 h
def Same (H H':Hp):Prop:=∀b o,H b=some o→H' b=some o
theorem Same.refl (H:Hp):Same H H:=fun _ _ h=>h
theorem Same.trans {H H1 H2:Hp} (a:Same H H1) (b:Same H1 H2):Same H H2:=fun c o h=>b c o (a c o h)
theorem Same.free {H H':Hp} (e:Same H H') {l:Addr} (h:H' l=Option.none):H l=Option.none:=by
 cases q:H l with
 |none=>rfl
 |some o=>
  rw [e l o q] at h
  cases h
theorem Same.seq {K:PySem.W.Frag} {H H':Hp} {a:Addr} {xs:List V} (e:Same H H') (h:SqL K H a xs):SqL K H' a xs:=by
 rcases h with (h|⟨o,h⟩)|h
 · exact .inl (.inl (e _ _ h))
 · exact .inl (.inr ⟨o,e _ _ h⟩)
 · exact .inr h
end L2
namespace Srt
open PySem PySem.W PyProof.Rows
structure Ord (lt:Nat→Nat→Bool):Prop where
 asym:∀a b,lt a b=true→lt b a=false
 tr:∀a b c,lt b a=false→lt c b=false→lt c a=false
theorem Ord.refl {lt:Nat→Nat→Bool} (O:Ord lt) (a:Nat):lt a a=false:=by
 cases e:lt a a with
 |false=>rfl
 |true=>exact (O.asym a a e).symm.trans e |>.symm
theorem Ord.up {lt:Nat→Nat→Bool} (O:Ord lt) {a b c:Nat} (h:lt a b=true) (h2:lt c b=false):lt a c=true:=by
 cases e:lt a c with
 |true=>rfl
 |false=>
  have:=O.tr b c a h2 e
  rw [h] at this
  cases this
def Tri {α:Type} (lt:Nat→Nat→Bool) (N:Nat) (Post:α→Prop):KasT α→Prop
 | .ret a=>Post a
 | .ask i j k=>i < N∧j < N∧Tri lt N Post (k (lt i j))
variable {lt:Nat→Nat→Bool} {N:Nat}
theorem cJ {α β:Type} {Post:β→Prop} {f:α→KasT β}:∀ {t:KasT α},Tri lt N (fun a=>Tri lt N Post (f a)) t→Tri lt N Post (t.bind f)
 | .ret a,h=>h
 | .ask i j k,h=>⟨h.1,h.2.1,cJ h.2.2⟩
theorem bh {α:Type} {P Q:α→Prop} (hPQ:∀a,P a→Q a):∀ {t:KasT α},Tri lt N P t→Tri lt N Q t
 | .ret a,h=>hPQ a h
 | .ask i j k,h=>⟨h.1,h.2.1,bh hPQ h.2.2⟩
theorem pE {α:Type} {cmp:Nat→Nat→(Bool→Shared→Prop)→Shared→Prop} {G:Shared→Prop} {Post:α→Prop} {Q:α→Shared→Prop}
 (hc:∀i j (R:Bool→Shared→Prop) s,i < N→j < N→G s→(∀s',G s'→R (lt i j) s')→cmp i j R s) (hQ:∀a s,Post a→G s→Q a s):∀ {t:KasT α} {s:Shared},Tri lt N Post t→G s→t.kasWp cmp Q s
 | .ret a,s,h,g=>hQ a s h g
 | .ask i j k,s,h,g=>hc i j _ s h.1 h.2.1 g fun s' g'=>pE hc hQ h.2.2 g'
def g (p:Array Nat) (k:Nat):Nat:=p.getD k 0
def Pm (N:Nat) (p:Array Nat):Prop:=p.toList.Perm (List.range N)
theorem Pm.size {p:Array Nat} (h:Pm N p):p.size=N:=by
 have:=h.length_eq
 rw [yy,ze] at this
 exact this
theorem cC {p:Array Nat} (k:Nat):g p k=(p[k]?).getD 0:=by
 unfold g
 rw [zw]
theorem Pm.bd {p:Array Nat} (h:Pm N p) {k:Nat} (hk:k < N):g p k < N:=by
 have hs:=h.size
 have:p[k]?=some (p[k]'(by omega)):=yM _
 rw [cC,this]
 have m:p[k]'(by omega)∈p.toList:=Array.mem_toList_iff.mpr (Array.getElem_mem _)
 exact yY.mp (h.mem_iff.mp m)
theorem Pm.of {p q:Array Nat} (h:Pm N p) (e:q.Perm p):Pm N q:=(Array.perm_iff_toList_perm.mp e).trans h
theorem Pm.rev {p:Array Nat} (h:Pm N p) (i j:Nat):Pm N (kas_rev p i j):=h.of (mirror_perm _ _ _ _)
theorem er {p:Array Nat} {i j:Nat} (hj:j≤p.size) (k:Nat):g (kas_rev p i j) k=if i≤k∧k < j then g p (i+j - 1 - k) else g p k:=by
 rw [cC]
 unfold kas_rev
 rw [getElem?_mirror_all hj]
 split<;>rw [cC]
theorem y9 {p:Array Nat} {src d:Nat} (hs:src < p.size) (hd:d≤src) (k:Nat):g (bubble p src d) k=if k=src - d then g p src else if src - d < k∧k≤src then g p (k - 1) else g p k:=by
 rw [cC,getElem?_bubble hs d hd]
 split
 · rw [cC]
 · split<;>rw [cC]
def Up (lt:Nat→Nat→Bool) (p:Array Nat) (n:Nat):Prop:=∀i j,i≤j→j < n→lt (g p j) (g p i)=false
def Dn (lt:Nat→Nat→Bool) (p:Array Nat) (n:Nat):Prop:=∀i j,i≤j→j < n→lt (g p i) (g p j)=false
theorem sV (O:Ord lt) {p:Array Nat} {n:Nat} (h0:1≤n) (h:Up lt p n) (e:lt (g p n) (g p (n - 1))=false):Up lt p (n+1):=by
 intro i j hij hj
 by_cases q:j < n
 · exact h i j hij q
 · have ej:j=n:=by omega
   subst ej
   by_cases qi:i=j
   · subst qi
     exact O.refl _
   · exact O.tr _ _ _ (h i (j - 1) (by omega) (by omega)) e
theorem eT (O:Ord lt) {p:Array Nat} {n:Nat} (h0:1≤n) (h:Dn lt p n) (e:lt (g p (n - 1)) (g p n)=false):Dn lt p (n+1):=by
 intro i j hij hj
 by_cases q:j < n
 · exact h i j hij q
 · have ej:j=n:=by omega
   subst ej
   by_cases qi:i=j
   · subst qi
     exact O.refl _
   · exact O.tr _ _ _ e (h i (j - 1) (by omega) (by omega))
theorem vq {p:Array Nat} {n:Nat} (hn:n≤p.size) (h:Dn lt p n):Up lt (kas_rev p 0 n) n:=by
 intro i j hij hj
 rw [er hn,er hn,if_pos ⟨yO _,hj⟩,if_pos ⟨yO _,by omega⟩]
 exact h _ _ (by omega) (by omega)
theorem pL (O:Ord lt) {p:Array Nat} (hp:Pm N p):∀(f n:Nat),1≤n→n+f≤N→Up lt p n→Tri lt N (fun m=>n≤m∧m≤n+f∧Up lt p m∧(m < n+f→lt (g p m) (g p (m - 1))=true)) (kas_asc p f n)
 |0,n,h1,h2,h=>⟨yl _,yl _,h,fun q=>absurd q (by omega)⟩
 |f+1,n,h1,h2,h=>by
  refine ⟨Pm.bd hp (by omega),Pm.bd hp (by omega),?_⟩
  show Tri lt N _ (if lt (g p n) (g p (n - 1))=true then .ret n else kas_asc p f (n+1))
  by_cases e:lt (g p n) (g p (n - 1))=true
  · rw [if_pos e]
    exact ⟨yl _,by omega,h,fun _=>e⟩
  · rw [if_neg e]
    refine bh (fun m hm=> ?_) (pL O hp f (n+1) (by omega) (by omega) (sV O h1 h (by simpa using e)))
    exact ⟨by omega,by omega,hm.2.2.1,fun q=>hm.2.2.2 (by omega)⟩
def Eqv (lt:Nat→Nat→Bool) (p:Array Nat) (n q:Nat):Prop:=∀k,n - 1 - q≤k→k < n→lt (g p k) (g p (n - 1))=false∧lt (g p (n - 1)) (g p k)=false
theorem lb (O:Ord lt) {p:Array Nat} {n q:Nat} (hn:n≤p.size) (hq:q+1≤n) (h:Dn lt p n) (he:Eqv lt p n q):Dn lt (kas_rev p (n - (q+1)) n) n:=by
 intro i j hij hj
 rw [er hn,er hn]
 by_cases bi:n - (q+1)≤i
 · rw [if_pos ⟨bi,by omega⟩,if_pos ⟨by omega,hj⟩]
   obtain ⟨a1,a2⟩:=he (n - (q+1)+n - 1 - i) (by omega) (by omega)
   obtain ⟨b1,b2⟩:=he (n - (q+1)+n - 1 - j) (by omega) (by omega)
   exact O.tr _ _ _ b2 a1
 · rw [if_neg (by omega)]
   by_cases bj:n - (q+1)≤j
   · rw [if_pos ⟨bj,hj⟩]
     exact h _ _ (by omega) (by omega)
   · rw [if_neg (by omega)]
     exact h _ _ hij hj
theorem ja (O:Ord lt):∀(f:Nat) (p:Array Nat) (n q:Nat),Pm N p→1≤n→n+f≤N→q+1≤n→Dn lt p n→Eqv lt p n q→
 Tri lt N (fun r=>Pm N r.1∧n≤r.2.1∧r.2.1≤n+f∧r.2.2+1≤r.2.1∧Dn lt r.1 r.2.1∧Eqv lt r.1 r.2.1 r.2.2) (kas_desc f p n q)
 |0,p,n,q,hp,h1,h2,hq,h,he=>⟨hp,yl _,yl _,hq,h,he⟩
 |f+1,p,n,q,hp,h1,h2,hq,h,he=>by
  have hs:=hp.size
  refine ⟨Pm.bd hp (by omega),Pm.bd hp (by omega),?_⟩
  show Tri lt N _ (if lt (g p n) (g p (n - 1))=true then (if q > 0 then kas_desc f (kas_rev p (n - (q+1)) n) (n+1) 0 else kas_desc f p (n+1) 0) else .ask (g p (n - 1)) (g p n) fun d=>if d=true then .ret (p,n,q) else kas_desc f p (n+1) (q+1))
  have one:∀p':Array Nat,Eqv lt p' (n+1) 0:=fun p' k k1 k2=>by
   have:k=n:=by omega
   subst this
   exact ⟨O.refl _,O.refl _⟩
  by_cases e:lt (g p n) (g p (n - 1))=true
  · rw [if_pos e]
    have e':=O.asym _ _ e
    by_cases q0:q > 0
    · rw [if_pos q0]
      have d1:=lb O (by omega) hq h he
      have d2:Dn lt (kas_rev p (n - (q+1)) n) (n+1):=by
       refine eT O h1 d1 ?_
       rw [er (by omega),er (by omega),if_pos ⟨by omega,by omega⟩,if_neg (by omega)]
       obtain ⟨a1,a2⟩:=he (n - (q+1)+n - 1 - (n - 1)) (by omega) (by omega)
       exact O.tr _ _ _ e' a1
      refine bh (fun r hr=> ?_) (ja O f _ (n+1) 0 (hp.rev _ _) (by omega) (by omega) (by omega) d2 (one _))
      exact ⟨hr.1,by omega,by omega,hr.2.2.2⟩
    · rw [if_neg q0]
      refine bh (fun r hr=> ?_) (ja O f p (n+1) 0 hp (by omega) (by omega) (by omega) (eT O h1 h e') (one _))
      exact ⟨hr.1,by omega,by omega,hr.2.2.2⟩
  · rw [if_neg e]
    have e1:lt (g p n) (g p (n - 1))=false:=by simpa using e
    refine ⟨Pm.bd hp (by omega),Pm.bd hp (by omega),?_⟩
    show Tri lt N _ (if lt (g p (n - 1)) (g p n)=true then .ret (p,n,q) else kas_desc f p (n+1) (q+1))
    by_cases e2:lt (g p (n - 1)) (g p n)=true
    · rw [if_pos e2]
      exact ⟨hp,yl _,(by show n≤n+(f+1);omega),hq,h,he⟩
    · rw [if_neg e2]
      have e3:lt (g p (n - 1)) (g p n)=false:=by simpa using e2
      refine bh (fun r hr=> ?_) (ja O f p (n+1) (q+1) hp (by omega) (by omega) (by omega) (eT O h1 h e3) fun k k1 k2=> ?_)
      · exact ⟨hr.1,by omega,by omega,hr.2.2.2⟩
      · show lt (g p k) (g p n)=false∧lt (g p n) (g p k)=false
        by_cases kn:k=n
        · subst kn
          exact ⟨O.refl _,O.refl _⟩
        · obtain ⟨a1,a2⟩:=he k (by omega) (by omega)
          exact ⟨O.tr _ _ _ e3 a1,O.tr _ _ _ a2 e1⟩
theorem pK (O:Ord lt) {p:Array Nat} {n:Nat} (hp:Pm N p) (h1:1≤n) (hn:n≤N) (h:Dn lt p n):Tri lt N (fun r=>Pm N r.2∧1≤r.1∧r.1≤N∧Up lt r.2 r.1) (kas_tail3 n N p):=by
 unfold kas_tail3
 refine cJ (bh (fun m hm=> ?_) (pL O (hp.rev 0 n) (N - n) n h1 (by omega) (vq (by rw [hp.size];exact hn) h)))
 exact ⟨hp.rev 0 n,by omega,by omega,hm.2.2.1⟩
theorem gG (O:Ord lt) {p:Array Nat} {n:Nat} (hp:Pm N p) (hn:n+1≤N) (h:Dn lt p (n+1)):Tri lt N (fun r=>Pm N r.2∧1≤r.1∧r.1≤N∧Up lt r.2 r.1) (kas_descPart n N p):=by
 unfold kas_descPart
 refine cJ (bh (fun r hr=> ?_) (ja O (N - (n+1)) p (n+1) 0 hp (by omega) (by omega) (by omega) h fun k k1 k2=> ?_))
 · obtain ⟨a1,a2,a3,a4,a5,a6⟩:=hr
   split
   · exact pK O (a1.rev _ _) (by omega) (by omega) (lb O (by rw [a1.size];omega) a4 a5 a6)
   · exact pK O a1 (by omega) (by omega) a5
 · have:k=n:=by omega
   subst this
   exact ⟨O.refl _,O.refl _⟩
theorem t8 (O:Ord lt) {p:Array Nat} (hp:Pm N p) (hN:1≤N):Tri lt N (fun r=>Pm N r.2∧1≤r.1∧r.1≤N∧Up lt r.2 r.1) (kas_count N p):=by
 unfold kas_count
 have u1:Up lt p 1:=fun i j hij hj=>by
  have:i=0:=by omega
  have:j=0:=by omega
  subst_vars
  exact O.refl _
 refine cJ (bh (fun n hn=> ?_) (pL O hp (N - 1) 1 (yl _) (by omega) u1))
 obtain ⟨b1,b2,b3,b4⟩:=hn
 by_cases e:(n==N)=true
 · rw [if_pos e]
   exact ⟨hp,b1,by omega,b3⟩
 · rw [if_neg e]
   have e':n≠N:=by simpa using e
   have l1:=b4 (by omega)
   by_cases n1:n > 1
   · rw [if_pos n1]
     refine ⟨Pm.bd hp (by omega),Pm.bd hp (by omega),?_⟩
     show Tri lt N _ (if lt (g p 0) (g p (n - 1))=true then .ret (n,p) else kas_descPart n N (kas_rev p 0 n))
     by_cases e2:lt (g p 0) (g p (n - 1))=true
     · rw [if_pos e2]
       exact ⟨hp,b1,by omega,b3⟩
     · rw [if_neg e2]
       have e3:lt (g p 0) (g p (n - 1))=false:=by simpa using e2
       have alike:∀i j,i < n→j < n→lt (g p i) (g p j)=false:=fun i j hi hj=>
        O.tr (g p j) (g p 0) (g p i) (O.tr _ _ _ (b3 j (n - 1) (by omega) (by omega)) e3) (b3 0 i (yO _) hi)
       have hs:=hp.size
       refine gG O (hp.rev 0 n) (by omega) (eT O (by omega) (fun i j hij hj=> ?_) ?_)
       · rw [er (by omega),er (by omega),if_pos ⟨yO _,by omega⟩,if_pos ⟨yO _,hj⟩]
         exact alike _ _ (by omega) (by omega)
       · rw [er (by omega),er (by omega),if_pos ⟨yO _,by omega⟩,if_neg (by omega)]
         exact O.tr _ _ _ (O.asym _ _ l1) (alike _ _ (by omega) (by omega))
   · rw [if_neg n1]
     have en:n=1:=by omega
     subst en
     refine gG O hp (by omega) (eT O (yl _) (fun i j hij hj=> ?_) (O.asym _ _ l1))
     have:i=0:=by omega
     have:j=0:=by omega
     subst_vars
     exact O.refl _
theorem j9 (O:Ord lt) {p:Array Nat} {k:Nat} (hp:Pm N p) (hk:k < N) (h:Up lt p k):∀(f l r:Nat),l≤r→r≤k→r - l≤f→(∀i,i < l→lt (g p k) (g p i)=false)→(∀i,r≤i→i < k→lt (g p k) (g p i)=true)→
 Tri lt N (fun m=>m≤k∧(∀i,i < m→lt (g p k) (g p i)=false)∧∀i,m≤i→i < k→lt (g p k) (g p i)=true) (kas_place p k f l r)
 |0,l,r,h1,h2,h3,a,b=>by
  have:l=r:=by omega
  subst this
  exact ⟨h2,a,b⟩
 |f+1,l,r,h1,h2,h3,a,b=>by
  show Tri lt N _ (if l≥r then .ret l else .ask (p.getD k 0) (p.getD ((l+r) / 2) 0) fun c=>if c=true then kas_place p k f l ((l+r) / 2) else kas_place p k f ((l+r) / 2+1) r)
  by_cases e:l≥r
  · rw [if_pos e]
    have:l=r:=by omega
    subst this
    exact ⟨h2,a,b⟩
  · rw [if_neg e]
    refine ⟨Pm.bd hp hk,Pm.bd hp (by omega),?_⟩
    show Tri lt N _ (if lt (g p k) (g p ((l+r) / 2))=true then kas_place p k f l ((l+r) / 2) else kas_place p k f ((l+r) / 2+1) r)
    by_cases c:lt (g p k) (g p ((l+r) / 2))=true
    · rw [if_pos c]
      refine j9 O hp hk h f l ((l+r) / 2) (by omega) (by omega) (by omega) a fun i i1 i2=> ?_
      by_cases q:r≤i
      · exact b i q i2
      · exact O.up c (h _ _ i1 i2)
    · rw [if_neg c]
      have c':lt (g p k) (g p ((l+r) / 2))=false:=by simpa using c
      refine j9 O hp hk h f ((l+r) / 2+1) r (by omega) h2 (by omega) (fun i i1=> ?_) b
      exact O.tr _ _ _ (h i ((l+r) / 2) (by omega) (by omega)) c'
theorem uQ (O:Ord lt):∀(f:Nat) (p:Array Nat) (k:Nat),Pm N p→k+f≤N→Up lt p k→Tri lt N (fun q=>Pm N q∧Up lt q (k+f)) (kas_bin f p k)
 |0,p,k,hp,_,h=>⟨hp,h⟩
 |f+1,p,k,hp,hk,h=>by
  have hs:=hp.size
  show Tri lt N _ ((kas_place p k k 0 k).bind fun l=>kas_bin f (bubble p k (k - l)) (k+1))
  refine cJ (bh (fun l hl=> ?_) (j9 O hp (by omega) h k 0 k (yO _) (yl _) (by omega) (fun i hi=>absurd hi (by omega)) fun i h1 h2=>absurd h1 (by omega)))
  obtain ⟨l1,l2,l3⟩:=hl
  have el:k - (k - l)=l:=by omega
  have hb:∀i,g (bubble p k (k - l)) i=if i=l then g p k else if l < i∧i≤k then g p (i - 1) else g p i:=fun i=>by
   rw [y9 (by omega) (by omega),el]
  have u:Up lt (bubble p k (k - l)) (k+1):=by
   intro i j hij hj
   rw [hb,hb]
   by_cases jl:j=l
   · rw [if_pos jl]
     by_cases il:i=l
     · rw [if_pos il]
       exact O.refl _
     · rw [if_neg il,if_neg (by omega)]
       exact l2 i (by omega)
   · rw [if_neg jl]
     by_cases j2:l < j∧j≤k
     · rw [if_pos j2]
       by_cases il:i=l
       · rw [if_pos il]
         exact O.asym _ _ (l3 (j - 1) (by omega) (by omega))
       · rw [if_neg il]
         by_cases i2:l < i∧i≤k
         · rw [if_pos i2]
           exact h _ _ (by omega) (by omega)
         · rw [if_neg i2]
           exact h _ _ (by omega) (by omega)
     · rw [if_neg j2,if_neg (by omega),if_neg (by omega)]
       exact h _ _ hij (by omega)
  refine bh (fun q hq=> ?_) (uQ O f _ (k+1) (hp.of (bubble_perm _ _ _)) (by omega) u)
  rw [show k+(f+1)=k+1+f by omega]
  exact hq
theorem vw (O:Ord lt) (hN:1≤N):Tri lt N (fun p=>Pm N p∧Up lt p N) (kas_sort N):=by
 unfold kas_sort
 have h0:Pm N (List.toArray (List.range N)):=by
  unfold Pm
  simp
 refine cJ (bh (fun r hr=> ?_) (t8 O h0 hN))
 obtain ⟨a1,a2,a3,a4⟩:=hr
 by_cases e:r.1 < N
 · rw [if_pos e]
   have em:max r.1 1=r.1:=by omega
   rw [em]
   have:=uQ O (N - r.1) r.2 r.1 a1 (by omega) a4
   rw [show r.1+(N - r.1)=N by omega] at this
   exact this
 · rw [if_neg e]
   have:r.1=N:=by omega
   rw [this] at a4
   exact ⟨a1,a4⟩
end Srt
namespace L2
open PySem
section
variable {M:Model} {prog:Program} {w:World} {A:Around} {E:Value→Shared→Prop} {h:Heap} {g:Array GenState} {d:Drawn} {t:Nat} {os:OsState}
variable {nm q:Str} {C N:Addr} {bs bm bmB:List Value} {hdct:Bool} {sn:List Str} {sub:List Value} {ab:Bool} {col:Option Bool} {dd:Option Addr} {k0 k1 k2 k3 k5:Option Value} {B newId initId:String}
structure Line (B:String) (bm:List Value):Prop where
 own:bm.contains (.type B)=true
 top:bm.contains (.type "BaseException")=true
 attr:bm.contains (.type "AttributeError")=false
 name:bm.contains (.type "NameError")=false
theorem Line.cons {C:Addr} (l:Line B bm):Line B (.ref C::bm):=
 ⟨by rw [List.contains_cons,l.own,Bool.or_true],by rw [List.contains_cons,l.top,Bool.or_true],by rw [List.contains_cons,l.attr];rfl,by rw [List.contains_cons,l.name];rfl⟩
theorem ub (Fn:ExcBaseFacts B newId initId bmB) (l:Line B bm) {args:List Value} {Q:Unit→Shared→Prop}
 (oC:h.get? C=some (excClassObj nm q C N bs bm hdct sn sub ab col dd k0 k1 k2 k3 k5 newId)) (z:Q () ⟨h,g,d,t,os⟩):
 wpAny M A (checkBuiltinCall newId ⟨.ref C::args,[]⟩) Q E ⟨h,g,d,t,os⟩:=by
 have own:=(l.cons (C:=C)).own
 have st:=Fn.noStar
 simp only [checkBuiltinCall,Fn.newKind,Fn.newSplit,Fn.newRow]
 repeat
  first
  |refine wpAny_loadPart_at oC ?_
  |(refine wpAny_isSubtype_exc oC ?_;rw [own])
  |refine wpAny_staticBase_exc oC ?_
  |refine wpAny_madeBy_exc oC ?_
  |simp only [bne_self_eq_false,yA,if_false]
  |wp_step
 exact z
theorem u8 (Fn:ExcBaseFacts B newId initId bmB) (l:Line B bm) {args:List Value} {R:Result→Shared→Prop}
 (oC:h.get? C=some (excClassObj nm q C N bs bm hdct sn sub ab col dd k0 k1 k2 k3 k5 newId)) (sz:args.length≤sizeLine)
 (z:R (.ok (.ret (.ref (h.objs.size+1)))) ⟨(h.push {cls:= .type "tuple",data:= .seq args.toArray}).push {cls:= .ref C,data:= .fields #[.ref h.objs.size, .none, .none, .none, .bool false, .none]},g,d,t,os⟩):
 codeAny (model prog w) A (.builtin newId ⟨.ref C::args,[]⟩) R ⟨h,g,d,t,os⟩:=by
 have en:=Fn.ends
 have c1:=(l.cons (C:=C)).own
 have c2:=(l.cons (C:=C)).attr
 have c3:=(l.cons (C:=C)).name
 refine codeAny_builtinAt Fn.entry ?_
 unfold Builtin.«BaseException.__new__»
 refine wpAt_bind ?_
 show wpAt _ _ _ (stack >>=_) _ _ _
 refine wpAt_bind (wpAt_stack fun p below=>wpAt_of_wpAny ?_)
 wp_walk
 refine wpAt_of_wpAny ?_
 rw [Fn.owner]
 repeat
  first
  |with_reducible refine wpAny_madeHere_exc Fn.canon oC ?_
  |with_reducible refine wpAny_loadPart_at oC ?_
  |(with_reducible refine wpAny_isSubtype_exc oC ?_;first|rw [c1]|rw [c2]|rw [c3])
  |wp_step
 show R _ _
 rw [Heap.size_push]
 exact z
theorem im (Fn:ExcBaseFacts B newId initId bmB) (l:Line B bm) {K:PySem.W.Frag} {args:List Value} {fI:Addr} {Q:Fin→Shared→Prop}
 (oC:h.get? C=some (excClassObj nm q C N bs bm hdct sn sub ab col dd k0 k1 k2 k3 k5 newId)) (X:K.In h) (hi:PySem.W.findIn K (.ref C) "__init__"=some (some (.ref fI))) (hf:PySem.W.isFn K (.ref fI)=true) (sz:args.length≤sizeLine)
 (z:∀h' e,Heap.MadeExcOf h h' e (.ref C) args→e=h.objs.size+1→
  wpAny (model prog w) A (call (.ref fI) (.ref e::args)) (fun r s'=>r= .none∧Q (.done (.ret (.ref e))) s') E ⟨h',g,d,t,os⟩):
 wpAny (model prog w) A (Builtin.«type.__call__» ⟨.ref C::args,[]⟩) Q E ⟨h,g,d,t,os⟩:=by
 repeat
  first
  |with_reducible refine wpAny_loadPart_at oC ?_
  |with_reducible refine wpAny_madeBy_exc oC ?_
  |wp_step
 refine codeAny_call_builtin_code (Code.quiet_builtin _ Fn.quiet) (ub Fn l oC ?_)
 refine u8 Fn l oC sz ?_
 show wpAny _ _ _ _ _ _
 have up:∀b o,h.get? b=some o→((h.push {cls:= .type "tuple",data:= .seq args.toArray}).push {cls:= .ref C,data:= .fields #[.ref h.objs.size, .none, .none, .none, .bool false, .none]}).get? b=some o:=
  fun b o e=>Heap.get?_push_of_some _ (Heap.get?_push_of_some _ e)
 have oC1:=up _ _ oC
 have it:((h.push {cls:= .type "tuple",data:= .seq args.toArray}).push
  {cls:= .ref C,data:= .fields #[.ref h.objs.size, .none, .none, .none, .bool false, .none]}).get? (h.objs.size+1)=some
  {cls:= .ref C,data:= .fields #[.ref h.objs.size, .none, .none, .none, .bool false, .none]}:=by heap_get
 have me:(Value.ref C::bm).contains (.ref C)=true:=by simp
 unfold isInstance
 repeat
  first
  |with_reducible refine wpAny_loadPart_at it ?_
  |(with_reducible refine wpAny_isSubtype_exc oC1 ?_;rw [me])
  |wp_step
 show wpAny _ _ (typeLookup (.ref C) _) _ _ _
 have Lk:=PySem.W.looks_findIn (M:=model prog w) (X.keeps up) hi
 refine Lk.here ?_
 refine wpAny_holding (wpAny_bind ?_)
 have Bf:=PySem.W.bind_fn (M:=model prog w) (X.keeps up) (.ref (h.objs.size+1)) (beq_iff_eq.mp hf)
 refine Bf.here ?_
 refine wpAny_bind (wpAny_mono (z _ (h.objs.size+1) ⟨up,Heap.get?_none_of_le (Nat.le_succ _),h.objs.size,it,Heap.get?_none_of_le (yl _),?_⟩ rfl) (fun r s' hr=> ?_) fun _ _ x=>x)
 · exact Heap.get?_push_of_some _ (Heap.get?_push_at rfl rfl)
 · obtain ⟨rfl,hQ⟩:=hr
   wp_walk
   exact hQ
theorem sk (Fn:ExcBaseFacts B newId initId bmB) (l:Line B bm) {K:PySem.W.Frag} {args:List Value} {fI:Addr} {Q:Value→Shared→Prop}
 (oC:h.get? C=some (excClassObj nm q C N bs bm hdct sn sub ab col dd k0 k1 k2 k3 k5 newId)) (X:K.In h) (hi:PySem.W.findIn K (.ref C) "__init__"=some (some (.ref fI))) (hf:PySem.W.isFn K (.ref fI)=true) (sz:args.length≤sizeLine)
 (z:∀h' e,Heap.MadeExcOf h h' e (.ref C) args→e=h.objs.size+1→
  wpAny (model prog w) (A.under (.builtin "type.__call__" ⟨.ref C::args,[]⟩)) (call (.ref fI) (.ref e::args)) (fun r s'=>r= .none∧Q (.ref e) s') E ⟨h',g,d,t,os⟩):
 wpAny (model prog w) A (call (.ref C) args) Q E ⟨h,g,d,t,os⟩:=by
 have f1:=tc_lookup
 have f2:=tc_bind (.ref C)
 have ty:(⟨h,g,d,t,os⟩:Shared).TypeIs (.ref C) "type":=⟨_,oC,rfl⟩
 refine wpAny_call (codeAny_of_tree ?_)
 show wpAny _ _ (callAny (.ref C) _) _ _ _
 repeat
  any_goals
   first
   |assumption
   |with_reducible refine wpAny_loadPart_at oC ?_
   |wp_step
 refine ⟨rfl,?_⟩
 exact codeAny_call_builtin_at (Code.quiet_builtin _ (by decide +kernel)) entry_typeCall (wpAny_check_type_call_sub oC (im Fn l oC X hi hf sz fun h' e hm ee=>z h' e hm ee))
end
section
open PySem
variable {prog:Program} {w:World} {A:Around} {E:Value→Shared→Prop} {h:Heap} {g:Array GenState} {d:Drawn} {t:Nat} {os:OsState}
variable {nm q:Str} {C N:Addr} {bs bm bmB:List Value} {hdct:Bool} {sn:List Str} {sub:List Value} {ab:Bool} {col:Option Bool} {dd:Option Addr} {k0 k1 k2 k3 k5:Option Value} {B newId nid initId:String}
theorem r8 (Fn:ExcBaseFacts B nid initId bmB) (l:Line B bm) {M:Model} {e:Addr} {oe:Obj} {args:List Value} {Q:Unit→Shared→Prop}
 (oC:h.get? C=some (excClassObj nm q C N bs bm hdct sn sub ab col dd k0 k1 k2 k3 k5 newId)) (oE:h.get? e=some oe) (cE:oe.cls= .ref C) (z:Q () ⟨h,g,d,t,os⟩):
 wpAny M A (checkBuiltinCall initId ⟨.ref e::args,[]⟩) Q E ⟨h,g,d,t,os⟩:=by
 have own:=(l.cons (C:=C)).own
 have st:=Fn.noStar
 simp only [checkBuiltinCall,Fn.initKind,Fn.initSplit,Fn.initRow]
 repeat
  first
  |(with_reducible refine wpAny_loadPart_at oE ?_;rw [cE])
  |with_reducible refine wpAny_loadPart_at oC ?_
  |(with_reducible refine wpAny_isSubtype_exc oC ?_;rw [own])
  |wp_step
 refine wpAny_onRaise ?_
 rw [show∀(a b:String) (n:Nat),Bind.check ⟨.positional,"*",B, .self,[⟨"args", .varPos,false⟩]⟩ a b n (List.map (fun x=>x.fst) ({pos:=Value.ref e::args}:Args).kw)=pure () from fun a b n=>check_star_args _ _ _ _ _ _]
 exact wpAny_pure z
theorem ij (Fn:ExcBaseFacts B nid initId bmB) (l:Line B bm) {e t0:Addr} {args:List Value} {Q:Value→Shared→Prop}
 (oC:h.get? C=some (excClassObj nm q C N bs bm hdct sn sub ab col dd k0 k1 k2 k3 k5 newId)) (oE:h.get? e=some {cls:= .ref C,data:= .fields #[.ref t0, .none, .none, .none, .bool false, .none]}) (sz:args.length≤sizeLine)
 (z:∀h' t1,(∀b o,b≠e→h.get? b=some o→h'.get? b=some o)→h'.get? e=some {cls:= .ref C,data:= .fields #[.ref t1, .none, .none, .none, .bool false, .none]}→Q .none ⟨h',g,d,t,os⟩):
 wpAny (model prog w) A (call (.builtin initId) (.ref e::args)) Q E ⟨h,g,d,t,os⟩:=by
 refine wpAny_call (codeAny_call_builtin Fn.init.plain Fn.initEntry (r8 Fn l oC oE rfl ?_))
 wp_walk
 refine z _ h.objs.size (fun b o hb e1=> ?_) ?_
 · rw [Heap.get?_update_other _ _ (Ne.symm hb)]
   exact Heap.get?_push_of_some _ e1
 · rw [Heap.get?_update_self _ (Heap.get?_push_of_some _ oE) rfl]
   rfl
end
open PySem PySem.Spec PyProof.Rows
noncomputable def Exo (C e:Addr):HO:= .ext fun h=>∃t,h.get? e=some {cls:= .ref C,data:= .fields #[.ref t, .none, .none, .none, .bool false, .none]}
theorem rM {P:Program} {w:World} {H:Hp} {h:Heap} {C e t:Addr} (x:h.get? e=some {cls:= .ref C,data:= .fields #[.ref t, .none, .none, .none, .bool false, .none]}):ObjOk P w H h e (Exo C e):=
 ⟨⟨t,x⟩,⟨_,x⟩,fun _ _ ⟨t',y⟩ k=>⟨t',k _ y⟩⟩
theorem vp {H:Hp} {a:Addr} {o:HO} (e:H a=some o):upd H a o=H:=by
 funext b
 unfold upd
 split
 · rename_i q
   rw [q,e]
 · rfl
structure XCls (K:PySem.W.Frag) (C fI:Addr):Prop where
 ex:∃nm q N bs bm hdct sn sub ab col dd k0 k1 k2 k3 k5,K.lookup C=some (excClassObj nm q C N bs bm hdct sn sub ab col dd k0 k1 k2 k3 k5 "ValueError.__new__")∧Line "ValueError" bm
 init:PySem.W.findIn K (.ref C) "__init__"=some (some (.ref fI))
 fn:PySem.W.isFn K (.ref fI)=true
 kp:PySem.W.keepIn K (.ref C)=true
section
variable {X:Cx} {CX:CXT} {k:Nat} {f C:Addr} {fd:FuncData} {ps:List Str} {sp:Sp} {E:XK} {x:Str} {p pos apos:Pos} {e:Expr} {es:List Expr} {t:TA}
def vz (s₀:Shared) (C:Addr) (sp:Sp) (E:XK) (t:TA):TE:=fun σ H Q=>t σ H fun vs H1=>∀x,H1 x=none→s₀.heap.get? x=none→sp (.ref x::vs) (upd H1 x (Exo C x)) (fun v H2=>v= .non∧Q (.ref x) H2) E
theorem qJ (M:XCls X.K C f) (F:FnOk X.prog X.w X.K X.mg X.base CX k f fd ps sp) (hr:Room (k+1) X.A) (hg:Gl X x) (hm:X.mg x=some (.ref C)) (hb:Binds X.K fd ps []) (hx:ik CX X E)
 (ha:PA X (e::es) t) (hsz:(e::es).length≤100) (hdb:(x==("__debug__":Str))=false:=by decide) (he:starEach (e::es) X.env=(false,eval e X.env)::starEach es X.env:=by rfl) (hpl:(backTo pos (starEach es X.env)).any (·.1)=false:=by rfl)
 (hlen:∀vs H Q E',sp vs H Q E'→vs.length≤1000):PE X (.Call (.Name x p) (e::es) [] pos) (vz X.s₀ C sp E t):=by
 intro pins s σ H Q I h
 refine wpAny_Call_Name_kw (jw I hg hm ?_ hdb)
 refine PySem.W.callWith_K (h₀:=X.base) I.ok.mod.kin M.kp (thn (ha pos pins s σ H _ I h) fun us s1 ⟨vs,H1,I1,r,z⟩=>⟨I1.kIn,?_⟩) he hpl
 obtain ⟨nm,q,N,bs,bm,hdct,sn,sub,ab,col,dd,k0,k1,k2,k3,k5,hC,hl⟩:=M.ex
 have oC:=I1.kIn _ _ hC
 have f1:H1 (s1.heap.objs.size+1)=none:=I1.hok.fresh (Nat.le_succ _)
 have f2:X.s₀.heap.get? (s1.heap.objs.size+1)=none:=Heap.get?_none_of_le (yU I1.sz (Nat.le_succ _))
 have hq:=z _ f1 f2
 have e1:vs.length=us.length:=r.length
 have l1:=hlen _ _ _ _ hq
 rw [yC] at l1
 obtain ⟨hh,g,d,tk,os⟩:=s1
 refine sk (K:=X.K) PySem.F.excBase_ValueError hl oC I1.kIn M.init M.fn (show us.length≤sizeLine from Nat.le_of_lt (iz (by omega))) fun h' e' hm' ee=> ?_
 subst ee
 obtain ⟨t0,ht0,_⟩:=hm'.there
 have I2:=I1.laid (t':=tk) (o:=Exo C (hh.objs.size+1)) (a:=hh.objs.size+1) hm'.keeps (Nat.le_succ _) (rM ht0)
 have r2:Vals (V.ref (hh.objs.size+1)::vs) (Value.ref (hh.objs.size+1)::us):= .cons rfl r
 have hl2:(Value.ref (hh.objs.size+1)::us).length=ps.length:=by
  have e:=r2.length
  rw [F.len _ _ _ _ hq] at e
  exact e.symm
 refine wpAny_call (codeAny_mono (F.run _ X.stack _ _ ⟨Value.ref (hh.objs.size+1)::us,[]⟩ (Value.ref (hh.objs.size+1)::us) _ _ E (hr.make C us [])
  (I2.env0.make C us []) (by have:=hb _ (Value.ref (hh.objs.size+1)::us) I2.kIn (by rw [List.append_nil];exact hl2);rw [List.append_nil] at this;exact this) r2 hq) fun r s' hq'=> ?_)
 cases r with
 |error e=>exact hx pins σ _ _ e s' I2 hq'
 |ok fl=>
  cases fl with
  |ret u=>
   obtain ⟨v,H',I3,rv,ev,q3⟩:=I2.after hq'
   subst ev
   exact ⟨rv,⟨V.ref (hh.objs.size+1),H',I3,rfl,q3⟩⟩
  |next=>exact False.elim hq'
  |brk=>exact False.elim hq'
  |cont=>exact False.elim hq'
def oK (K:PySem.W.Frag) (t:TA):TE:=fun σ H Q=>t σ H fun vs H1=>∃x C fI r,vs= .ref x::r∧r.length≤1000∧H1 x=some (Exo C x)∧XCls K C fI∧Q .non H1
theorem mz (K:PySem.W.Frag):PySem.W.findCls K (.type "ValueError") (.type "type") "__init__"=some (.val (.builtin "ValueError.__init__")):=by kernel_rfl
theorem ka (hg:Gl X "ValueError") (hm:X.mg "ValueError"=none) (ha:PA X (e::es) t) (he:starEach (e::es) X.env=(false,eval e X.env)::starEach es X.env:=by rfl) (hpl:(backTo pos (starEach es X.env)).any (·.1)=false:=by rfl)
 {pl:Sem Bool} (ht:eval (.Call (.Attribute (.Name "ValueError" p) "__init__" apos) (e::es) [] pos) X.env=(do
  let ov←eval (.Name "ValueError" p) X.env
  standAt apos.atName
  let (f,first)←holding [ov] (getMethod ov "__init__" pl)
  callWith pos f first (backTo pos (starEach (e::es) X.env)) (backToKw pos (keywordEach [] X.env))):=by rfl):
 PE X (.Call (.Attribute (.Name "ValueError" p) "__init__" apos) (e::es) [] pos) (oK X.K t):=by
 intro pins s σ H Q I h
 obtain ⟨m,F⟩:=I.fr
 refine PySem.W.methodCall_KW (pl:=pl) (ft I hg hm (u:= .type "ValueError") (by kernel_rfl) ?_) ht
 refine PySem.W.method_type F I.ok.mod.kin (by kernel_rfl) (by decide +kernel) (mz X.K) (by decide +kernel) ?_
 refine PyProof.Rows.callWith_builtin1 (thn (ha pos pins _ σ H _ (I.tok _) h) fun us s1 ⟨vs,H1,I1,r1,y,C,fI,r,ev,hz,hH,hX,q1⟩=> ?_) he hpl
 subst ev
 cases r1 with
 | @cons _ u0 _ ur q0 r1=>
  cases (show u0=Value.ref y from q0)
  obtain ⟨nm,q,N,bs,bm,hdct,sn,sub,ab,col,dd,k0,k1,k2,k3,k5,hC,hl⟩:=hX.ex
  have oC:=I1.kIn _ _ hC
  obtain ⟨⟨t0,oE⟩,_⟩:=(show ObjOk X.prog X.w H1 s1.heap y (Exo C y) from I1.hok y _ hH)
  have e1:r.length=ur.length:=r1.length
  obtain ⟨hh,g,d,tk,os⟩:=s1
  refine ij PySem.F.excBase_ValueError hl oC oE (Nat.le_of_lt (iz (by omega))) fun h' t1 kk oE'=> ?_
  have I2:=I1.write (x:=y) (e:=y) (o:=Exo C y) (t':=tk) (by rw [hH];exact True.intro) (.inl rfl) kk ⟨_,oE'⟩ (rM oE')
  rw [vp hH] at I2
  exact ⟨.non,H1,I2,rfl,q1⟩
end
open PySem PySem.Spec PyProof.Rows
def unt (H:Hp) (e:Addr):Hp:=fun b=>if b=e then none else H b
theorem cG {H:Hp} {e:Addr}:unt H e e=none:=by unfold unt;rw [if_pos rfl]
theorem cA {H:Hp} {e b:Addr} (h:b≠e):unt H e b=H b:=by unfold unt;rw [if_neg h]
theorem sW {H:Hp} {e:Addr} {o:HO} (h:H e=none):unt (upd H e o) e=H:=by
 funext b
 by_cases q:b=e
 · rw [q,cG,h]
 · rw [cA q,aF q]
theorem vt {P:Program} {w:World} {H:Hp} {h:Heap} {C e:Addr} (x:HOk P w H h) (he:H e=some (Exo C e)):HOk P w (unt H e) h:=fun b o q=>by
 have nb:b≠e:=by
  intro z
  rw [z,cG] at q
  cases q
 rw [cA nb] at q
 refine (x b o q).stay (fun _ _ _ r=>r) (fun c r=> ?_) (fun c xs r=> ?_)
 · rw [cA]
   · exact r
   · intro z
     rw [z,he] at r
     cases r
 · rw [cA]
   · exact r
   · intro z
     rw [z,he] at r
     cases r
def sJ (X:Cx) (E:XK):Prop:=∀(pins:List (Addr×Obj)) (σ:St) (H:Hp) (s:Shared) (e C:Addr),Inv X pins σ H s→H e=some (Exo C e)→X.s₀.heap.get? e=none→E (.ref C) none (unt H e)→X.xe (.ref e) s
section
variable {X:Cx} {C fI:Addr} {E:XK} {pos:Pos} {ce:Expr} {te:TE}
def vy (s₀:Shared) (C:Addr) (E:XK) (te:TE):TS:=fun _ σ H=>te σ H fun v H1=>∃e,v= .ref e∧H1 e=some (Exo C e)∧s₀.heap.get? e=none∧E (.ref C) none (unt H1 e)
theorem qz (hc:X.calm=true) (hX:XCls X.K C fI) (he:PE X ce te) (hx:sJ X E):PS X (.Raise (some ce) none pos) (vy X.s₀ C E te):=by
 intro pins s σ H D I h
 obtain ⟨nm,q,N,bs,bm,hdct,sn,sub,ab,col,dd,k0,k1,k2,k3,k5,hC,hl⟩:=hX.ex
 show wpAny (model X.prog X.w) X.A (do standAt pos;raiseStmt X.env (some (do let v←eval ce X.env;standAt pos;pure v)) none) _ _ s
 refine wpAny_bind (wpAny_standAt (wpAny_raiseStmt_made_sub (C:=C) (nm:=nm) (q:=q) (N:=N) (bs:=bs) (bm:=bm) (hdct:=hdct) (sn:=sn) (sub:=sub) (ab:=ab) (col:=col) (dd:=dd) (k0:=k0) (k1:=k1) (k2:=k2) (k3:=k3) (k5:=k5) (newId:="ValueError.__new__") hl.top (I.ok.hd hc) ?_))
 refine wpAny_bind (thn (he pins s σ H _ I h) fun v s1 ⟨x,H1,I1,r1,e,ex,hH,hn,q1⟩=>wpAny_bind (wpAny_standAt (wpAny_pure ?_)))
 subst ex
 cases (show v=Value.ref e from r1)
 obtain ⟨⟨t0,oE⟩,_⟩:=(show ObjOk X.prog X.w H1 s1.heap e (Exo C e) from I1.hok e _ hH)
 exact ⟨e,t0,rfl,I1.kIn _ _ hC,oE,hx pins σ H1 s1 e C I1 hH hn q1⟩
end
noncomputable def CX1 (P:Program) (w:World):CXT:=fun outer H s E e s'=>∃(a C:Addr) (a0:Value) (B:Heap) (H':Hp),e= .ref a∧s'.os=s.os∧AllBare s'.gens∧s.heap.get? a=none∧H' a=none∧HOk P w H' B∧
 Heap.FlyingW B outer a (.ref C) a0 s'.heap∧(∀b o,s.heap.get? b=some o→Idl (H b)→b∉frs outer→B.get? b=some o)∧(∀b o,s.heap.get? b=some o→H b=none→b∈frs outer→∃sl,s'.heap.get? b=some {o with slots:=sl})∧
 (∀b o,s.heap.get? b=some o→H b=none→H' b=none)∧(∀b o,s.heap.get? b=some o→b∉frs outer→∃o',B.get? b=some o')∧
 (∀b xs,H b=some (.tup xs)→H' b=some (.tup xs))∧(∀b o u,H b=some (.frz o u)→H' b=some (.frz o u))∧(∀b ps,H b=some (.tbl ps)→∃more,H' b=some (.tbl (ps++more)))∧E (.ref C) none H'
theorem frs_cons {env:Env} {outer:List Env} {b:Addr}:b∈frs (env::outer)↔env.frame=some b∨b∈frs outer:=by
 unfold frs
 rw [zo]
 cases q:env.frame with
 |none=>simp
 |some L=>
  simp only [yk,Option.some.injEq]
  constructor
  · rintro (z|z)
    · exact .inl z.symm
    · exact .inr z
  · rintro (z|z)
    · exact .inl z.symm
    · exact .inr z
theorem oH {P:Program} {w:World} {K:PySem.W.Frag} {mg:Str→Option Value} {base:Heap} {N:List Str} {qual:Str} {scope:Scope} {f:Addr} {cd:Value} {A:Around} {outer:List Env} {s:Shared} {H:Hp} {E:XK}:
 sJ (cxOf (CX1 P w) P w K mg base N qual scope f cd A outer s H E) E:=by
 intro pins σ H1 s1 e C I hH hn hE
 obtain ⟨⟨t0,oE⟩,_⟩:=(show ObjOk P w H1 s1.heap e (Exo C e) from I.hok e _ hH)
 have stk:s1.heap.FunFrames base (envOfC qual scope s.heap.objs.size f cd::outer):=I.stack
 have fre:∀b∈frs (envOfC qual scope s.heap.objs.size f cd::outer),H1 b=none:=I.stkFree
 have hfl:(envOfC qual scope s.heap.objs.size f cd).frame=some s.heap.objs.size:=rfl
 have hin:∀env∈(envOfC qual scope s.heap.objs.size f cd::outer),∀b,env.frame=some b→b∈e::frs (envOfC qual scope s.heap.objs.size f cd::outer):=fun env he b hb=>ym _ (List.mem_filterMap.mpr ⟨env,he,hb⟩)
 have kB:∀b o,s1.heap.get? b=some o→b≠e→b∉frs (envOfC qual scope s.heap.objs.size f cd::outer)→(PySem.W.hideAll s1.heap (e::frs (envOfC qual scope s.heap.objs.size f cd::outer))).get? b=some o:=fun b o q h1 h2=>
  PySem.W.hideAll_get _ q fun z=>by
   rcases yk.mp z with z|z
   · exact h1 z
   · exact h2 z
 have nL:∀b o,s.heap.get? b=some o→b≠s.heap.objs.size:=fun b o q=>yE (Heap.lt_size q)
 have nfr:∀b o,s.heap.get? b=some o→b∉frs outer→b∉frs (envOfC qual scope s.heap.objs.size f cd::outer):=fun b o q h2 z=>by
  rcases frs_cons.mp z with z|z
  · rw [hfl] at z
    exact nL b o q (yP z).symm
  · exact h2 z
 have ne:∀b o,s.heap.get? b=some o→b≠e:=fun b o q z=>by
  rw [z] at q
  have hn':s.heap.get? e=none:=hn
  rw [hn'] at q
  cases q
 refine wpAny_leaving_firstW (base:=PySem.W.hideAll s1.heap (e::frs (envOfC qual scope s.heap.objs.size f cd::outer))) (a0:= .ref t0) (oe:= {cls:= .ref C,data:= .fields #[.ref t0, .none, .none, .none, .bool false, .none]}) (L:=s.heap.objs.size)
  I.ok.frames (PySem.W.funFrames_hide stk hin) hfl oE (fun b o q=>PySem.W.of_hideAll _ q) (PySem.W.hideAll_none _ yn) rfl rfl rfl fun h' hL=> ?_
 obtain ⟨z1,⟨_,_,z2⟩,z3,z4⟩:=hL
 have un:Un (frs outer) [] H H1 s.heap s1.heap:=I.base
 refine ⟨e,C, .ref t0,_,unt H1 e,rfl,I.os,I.bare,hn,cG,?_,⟨z1,PySem.W.hideAll_none _ yn,z2,z3⟩,?_,?_,?_,?_,?_,?_,?_,hE⟩
 · intro b o q
   have nb:b≠e:=by
    intro z
    rw [z,cG] at q
    cases q
   refine (vt I.hok hH b o q).stay (fun c v hc r=>kB c v r ?_ ?_) (fun _ r=>r) fun _ _ r=>r
   · rcases hc with z|z
     · rw [z]
       exact nb
     · intro y
       rw [y,cG] at z
       cases z
   · intro y
     have y':=fre c y
     rcases hc with z|z
     · rw [cA nb,←z,y'] at q
       cases q
     · by_cases ce:c=e
       · rw [ce,cG] at z
         cases z
       · rw [cA ce,y'] at z
         cases z
 · intro b o q n hb
   exact kB b o (un.keep b o q n hb (by simp)) (ne b o q) (nfr b o q hb)
 · intro b o q n hb
   obtain ⟨sl,e1⟩:=un.slot b o q n hb (by simp)
   have nd:=(stk.mem (b:=b) (frs_cons.mpr (.inr hb))).2
   obtain ⟨o1,e2,d2⟩:=nd
   rw [e1] at e2
   cases e2
   obtain ⟨sl',e3⟩:=z4 b _ e1 d2
   exact ⟨sl',e3⟩
 · intro b o q n
   rw [cA (ne b o q)]
   exact un.free b o q n (by simp)
 · intro b o q hb
   obtain ⟨o',e1⟩:=un.there b o q (by simp)
   exact ⟨o',kB b o' e1 (ne b o q) (nfr b o q hb)⟩
 · intro b xs q
   have q1:=un.tups b xs q
   rw [cA]
   · exact q1
   · intro z
     rw [z,hH] at q1
     cases q1
 · intro b o u q
   have q1:=un.frzs b o u q
   rw [cA]
   · exact q1
   · intro z
     rw [z,hH] at q1
     cases q1
 · intro b ps q
   obtain ⟨more,q1⟩:=un.tbls b ps q
   refine ⟨more,?_⟩
   rw [cA]
   · exact q1
   · intro z
     rw [z,hH] at q1
     cases q1
theorem xy {X:Cx} {P:Program} {w:World}:ik (CX1 P w) X E0:=fun _ _ _ _ _ _ _ h=>by
 obtain ⟨_,_,_,_,_,h⟩:=h
 exact h.2.2.2.2.2.2.2.2.2.2.2.2.2.2.elim
section
open PySem PySem.W Builtin Builtin.ObjectAttr Builtin.Getset_descriptor
variable {prog:Program} {w:World} {A:Around} {E:Value→Shared→Prop} {h:Heap} {g:Array GenState} {d:Drawn} {t:Nat} {os:OsState} {a C:Addr} {o:Obj} {K:Frag}
structure XIs (K:Frag) (C:Addr):Prop where
 cls:(clsIn K C).isSome=true
 ga:findIn K (.ref C) "__getattribute__"=some (some (.builtin "BaseException.__getattribute__"))
 hook:findIn K (.ref C) "__getattr__"=some none
 cl:findIn K (.ref C) "__class__"=some (some (.builtin "object.__class__"))
 mo:mroIn K C (.type "object")=some true
 mb:mroIn K C (.type "BaseException")=some true
theorem fo {M:Model} {n:Str} {r:Option Value} {Q:Option Value→Shared→Prop} (X:K.In h) (e:findIn K (.ref C) n=some r) (z:Q r ⟨h,g,d,t,os⟩):wpAny M A (typeLookup (.ref C) n) Q E ⟨h,g,d,t,os⟩:=
 (looks_findIn (M:=M) X e).at z
theorem re {M:Model} {b:Value} {r:Bool} {Q:Bool→Shared→Prop} (X:K.In h) (e:mroIn K C b=some r) (z:Q r ⟨h,g,d,t,os⟩):wpAny M A (isSubtype (.ref C) b) Q E ⟨h,g,d,t,os⟩:=
 (looks_mroIn (M:=M) X e).at z
theorem iq {R:Result→Shared→Prop} {tp:Value} (Z:XIs K C) (X:K.In h) (hx:h.get? a=some o) (hc:o.cls= .ref C) (z:R (.ok (.ret (.ref C))) ⟨h,g,d,t,os⟩):
 codeAny (model prog w) A (.call (.builtin "getset_descriptor.__get__") ⟨[.builtin "object.__class__", .ref a,tp],[]⟩) R ⟨h,g,d,t,os⟩:=by
 have L0:Looks (model prog w) h (typeOf (.ref a)) (.ref C):=by
  have:=((Looks.ld (M:=model prog w) (part:=some headPart) hx).andThen (f:=fun o=>pure o.cls) .now)
  rw [hc] at this
  exact this
 have L1:=looks_mroIn (M:=model prog w) X Z.mo
 refine codeAny_call_builtin KF.slot_gs.plain KF.entry_gs (KF.slot_gs.check _ _ _ _ _ _ _ _ KF.type_class (KF.args_gs _ _ _) ?_)
 unfold Builtin.«getset_descriptor.__get__» descrGet
 rw [dga_obj]
 refine wpAny_bind (wpAny_pure ?_)
 unfold descrGetter descrCheckInstance descrNameAndClass isInstance
 simp only [KF.owner_class]
 repeat lk
 refine ⟨Code.quiet_builtin _ (by decide +kernel),codeAny_builtin KF.entry_class ?_⟩
 unfold Builtin.«object.__class__» shownTypeOf
 repeat lk
 exact z
theorem wf {M:Model} {nv:Value} {Q:Unit→Shared→Prop} (Z:XIs K C) (X:K.In h) (hx:h.get? a=some o) (hc:o.cls= .ref C) (z:Q () ⟨h,g,d,t,os⟩):
 wpAny M A (checkBuiltinCall "BaseException.__getattribute__" ⟨[.ref a,nv],[]⟩) Q E ⟨h,g,d,t,os⟩:=by
 have hk:builtinKind "BaseException.__getattribute__"=some .slot:=by decide +kernel
 have hs:splitId "BaseException.__getattribute__"=some ("BaseException","__getattribute__"):=by decide +kernel
 have ha:=PySem.F.args_bexc_ga (.ref a) nv
 simp only [checkBuiltinCall,hk,hs]
 refine wpAny_bind ?_
 unfold isInstance
 repeat
  first
  |(with_reducible refine wpAny_loadPart_at hx ?_;rw [hc])
  |with_reducible refine re X Z.mb ?_
  |wp_step
 exact z
theorem pe {Q:Option Value→Shared→Prop} (Z:XIs K C) (X:K.In h) (hx:h.get? a=some o) (hc:o.cls= .ref C) (z:Q (some (.ref C)) ⟨h,g,d,t+1,os⟩):
 wpAny (model prog w) A (getAttr? (.ref a) "__class__") Q E ⟨h,g,d,t,os⟩:=by
 have f3:=PySem.F.excAttr_ValueError.ga.bind (.ref a)
 have b2:(Value.builtin "BaseException.__getattribute__"==Value.builtin "object.__getattribute__")=false:=by decide +kernel
 have b1:(onTheHeap (Value.ref C)&&Value.builtin "BaseException.__getattribute__"==Value.builtin "object.__getattribute__")=false:=by rw [b2];rfl
 have f5:=PySem.F.typeOf_object_class
 have f6:=PySem.F.slot_gs_get.lookup
 have f7:=PySem.F.slot_gs_set.lookup
 have hT5:(⟨h,g,d,t+1,os⟩:Shared).TypeIs (.builtin "object.__class__") "getset_descriptor":=PySem.F.typeOf_object_class
 unfold getAttr? getAttrBy?
 refine wpAny_bind (wpAny_mkText (wpAny_bind (wpAny_attempt ?_)))
 unfold getAttrBy
 repeat
  any_goals
   first
   |assumption
   |(with_reducible refine wpAny_loadPart_at hx ?_;rw [hc])
   |with_reducible refine fo X Z.ga ?_
   |with_reducible refine fo X Z.hook ?_
   |wp_step
 refine codeAny_call_builtin PySem.F.excAttr_ValueError.ga.plain PySem.F.entry_bexc_ga (wf Z X hx hc ?_)
 repeat
  any_goals
   first
   |assumption
   |(with_reducible refine wpAny_loadPart_at hx ?_;rw [hc])
   |with_reducible refine fo X Z.cl ?_
   |wp_step
 refine iq Z X hx hc ?_
 repeat
  any_goals
   first
   |assumption
   |wp_step
end
open PySem PySem.Spec PyProof.Rows
noncomputable def Cau (C a:Addr):HO:= .ext fun h=>∃o,h.get? a=some o∧o.cls= .ref C
theorem rA {K:PySem.W.Frag} {C a:Addr} (Z:XIs K C):PySem.W.KitX K (.ref a) (.ref C) (fun h=>∃o,h.get? a=some o∧o.cls= .ref C) where
 ty:=fun M h _ ⟨o,e,c⟩=>by
  have:=((PySem.W.Looks.ld (M:=M) (part:=some headPart) e).andThen (f:=fun o=>pure o.cls) .now)
  rw [c] at this
  exact this
 it:=fun M h X _=>by
  have hc:=Z.cls
  unfold PySem.W.clsIn at hc
  split at hc
  · rename_i ho
    intro A' Q' E' s' k q
    unfold isType loadHead
    exact wpAny_bind (wpAny_loadPart (k _ _ (X _ _ ho)) (wpAny_pure q))
  · cases hc
 ne:=fun h tp dd its n sl X htp=>by
  have hc:=Z.cls
  refine Bool.eq_false_iff.mpr fun q=> ?_
  have e:C=tp:=Value.ref.inj (beq_iff_eq.mp q)
  subst e
  unfold PySem.W.clsIn at hc
  split at hc
  · rename_i ho
    cases (X _ _ ho).symm.trans htp
  · cases hc
 ca:=fun {prog w A E Q s} X ⟨o,e,c⟩ k=>by
  obtain ⟨h,g,d,t,os⟩:=s
  exact pe Z X e c k
noncomputable def clsV:V→Value
 | .ty n=> .type n
 | .ref a=> .ref a
 |_=> .none
def nX:V→Bool
 | .ty _=>true
 | .ref _=>true
 |_=>false
theorem ou {x:V} {u:Value} (r:RelV x u) (h:nX x=true):u=clsV x:=by
 cases x with
 |ty n=>exact r
 |ref a=>exact r
 |_=>cases h
theorem lp:∀ {xs:List V} {us:List Value},Vals xs us→xs.all nX=true→us=xs.map clsV
 |_,_, .nil,_=>rfl
 |_,_, .cons r t,h=>by
  rw [List.all_cons,yH] at h
  rw [ou r h.1,lp t h.2,yD]
inductive TyX (K:PySem.W.Frag) (H:Hp):V→Value→Prop where
 |of {x:V} {t:Value} (h:TyOf K H x t):TyX K H x t
 |exc {a C:Addr} (e:H a=some (Cau C a)) (Z:XIs K C):TyX K H (.ref a) (.ref C)
section
variable {X:Cx}
theorem TyX.kit {pins:List (Addr×Obj)} {σ:St} {H:Hp} {s:Shared} {x:V} {u t:Value} (I:Inv X pins σ H s) (rx:RelV x u) (ty:TyX X.K H x t):∃Hh,PySem.W.KitX X.K u t Hh∧Hh s.heap∧u≠ .builtin "__main__.__loader__#opaque":=by
 cases ty with
 |of ty=>
  cases ty with
  |non=>cases (show u=Value.none from rx);exact ⟨_,PySem.W.kitx_none,True.intro,fun z=>nomatch z⟩
  |bl y=>cases (show u=Value.bool y from rx);exact ⟨_,PySem.W.kitx_bool,True.intro,fun z=>nomatch z⟩
  |int i=>obtain ⟨t,q⟩:=(show∃t,u=Value.int i t from rx);cases q;exact ⟨_,PySem.W.kitx_int,True.intro,fun z=>nomatch z⟩
  |str y=>obtain ⟨t,q⟩:=(show∃t,u=Value.str y t from rx);cases q;exact ⟨_,PySem.W.kitx_str,True.intro,fun z=>nomatch z⟩
  |flt y=>obtain ⟨t,q⟩:=(show∃t,u=Value.float y t from rx);cases q;exact ⟨_,PySem.W.kitx_float,True.intro,fun z=>nomatch z⟩
  | @lst a xs ea=>
   cases (show u=Value.ref a from rx)
   obtain ⟨_,_,n,_,h1⟩:=(show ObjOk X.prog X.w H s.heap a (.lst xs) from I.hok a _ ea)
   exact ⟨_,PySem.W.kitx_list,⟨_,h1,rfl⟩,fun z=>nomatch z⟩
  | @frz a ob xs ea=>
   cases (show u=Value.ref a from rx)
   obtain ⟨_,_,_,n,_,h1⟩:=(show ObjOk X.prog X.w H s.heap a (.frz ob (.lst xs)) from I.hok a _ ea)
   exact ⟨_,PySem.W.kitx_list,⟨_,h1,rfl⟩,fun z=>nomatch z⟩
  | @tup a xs ea=>
   cases (show u=Value.ref a from rx)
   obtain ⟨_,_,_,o,h1,h2,_⟩:=(show ObjOk X.prog X.w H s.heap a (.tup xs) from I.hok a _ ea)
   exact ⟨_,PySem.W.kitx_tuple,⟨o,h1,h2⟩,fun z=>nomatch z⟩
  | @dK a kvs ea=>
   cases (show u=Value.ref a from rx)
   obtain ⟨_,_,vs,_,o,es,ep,h1,h2,_⟩:=(show ObjOk X.prog X.w H s.heap a (.dK kvs) from I.hok a _ ea)
   exact ⟨_,PySem.W.kitx_dict,⟨o,h1,h2.1⟩,fun z=>nomatch z⟩
  | @dT a kvs ea=>
   cases (show u=Value.ref a from rx)
   obtain ⟨_,_,xs,_,o,es,ep,h1,h2,_⟩:=(show ObjOk X.prog X.w H s.heap a (.dT kvs) from I.hok a _ ea)
   exact ⟨_,PySem.W.kitx_dict,⟨o,h1,h2.1⟩,fun z=>nomatch z⟩
  | @ins a C dx fs ea cl ha hn htk hm=>
   cases (show u=Value.ref a from rx)
   obtain ⟨mA,O,_⟩:=uk I.hok ea
   obtain ⟨od,J,_⟩:=O.look
   exact ⟨_,PySem.W.kitx_own (cl.get _) cl.hd ha hn htk hm,J,fun z=>nomatch z⟩
 | @exc a C e Z=>
  cases (show u=Value.ref a from rx)
  obtain ⟨h1,_⟩:=(show ObjOk X.prog X.w H s.heap a (Cau C a) from I.hok a _ e)
  exact ⟨_,rA Z,h1,fun z=>nomatch z⟩
def rIsi (K:PySem.W.Frag):List V→Hp→VK→Prop:=fun xs H Q=>∃x c t b,xs= [x,c]∧TyX K H x t∧
 ((nX c=true∧PySem.W.kitOne K t (clsV c)=some b)∨(∃p ys,c= .ref p∧H p=some (.tup ys)∧ys.all nX=true∧PySem.W.kitAny K t (ys.map clsV)=some b))∧Q (.bl b) H
theorem aN:ci X (.builtin "isinstance") (rIsi X.K):=by
 intro pins s σ H xs us Q I r h
 obtain ⟨x,c,t,b,e,ty,h,q⟩:=h
 subst e
 cases r with
 | @cons _ u _ _ rx r=>
  cases r with
  | @cons _ v _ _ rc r=>
   cases r
   obtain ⟨Hh,Z,hp,hne⟩:=ty.kit I rx
   rcases h with ⟨hc,hk⟩|⟨p,ys,e,hH,hall,hk⟩
   · cases ou rc hc
     exact PySem.W.kia_one Z I.kIn hp hk hne fun tk=>⟨.bl b,H,I.tok tk,rfl,q⟩
   · subst e
     cases (show v=Value.ref p from rc)
     obtain ⟨_,its,rv,⟨oc,od,oda,osl⟩,h1,h2,n,h3⟩:=(show ObjOk X.prog X.w H s.heap p (.tup ys) from I.hok p _ hH)
     dsimp only at h2 h3
     subst h2 h3
     cases lp rv hall
     exact PySem.W.kia_tup Z I.kIn hp h1 hk hne fun tk=>⟨.bl b,H,I.tok tk,rfl,q⟩
end
open PySem PySem.Spec PyProof.Rows
abbrev TSX:=Ends→XK→St→Hp→Prop
section
variable {X:Cx} {CX:CXT} {k:Nat} {f:Addr} {fd:FuncData} {ps:List Str} {sp:Sp} {x:Str} {p pos epos:Pos} {e:Expr} {es:List Expr} {t:TA}
end
section
variable {X:Cx} {pins:List (Addr×Obj)} {σ:St} {H:Hp} {s:Shared} {a:Addr}
end
section
variable {X:Cx} {body suite:List Stmt} {b0:Stmt} {tb:TSX} {ts:TS} {i:Nat} {n cx:Str} {np hpos pos:Pos} {W:Addr}
end
open PySem PySem.Spec PyProof.Rows
section
variable {X:Cx}
def Big (i:Int):Prop:=i.natAbs < 2^8000
theorem jp:OpR X (binaryOp .Mult) (rI (fun i j=>Big i∧Big j) fun i j=> .int (i*j)):=opI fun _ _ _ _ _ _ _ hc q=>
 PyProof.Rows.mul_int q (IntMulOk.of_le (m:=8000) (n:=8000) (intBits_le_iff.mpr hc.1) (intBits_le_iff.mpr hc.2) (by decide))
theorem sr {i j:Int} (h:Big j):Builtin.divisionGoesByPylong i j=false:=by
 refine PyProof.noPylong_of_log2 ?_
 by_cases z:j.natAbs=0
 · rw [z];decide
 · exact Nat.lt_trans ((Nat.log2_lt z).mpr h) (by decide)
theorem h9:OpR X (binaryOp .FloorDiv) (rI (fun _ j=>0 < j∧Big j) fun i j=> .int (i / j)):=opI fun i j _ _ _ _ _ hc q=>by
 have h1:(0:Int) < j:=hc.1
 exact floordiv_int (by omega) (by rw [Int.fdiv_eq_ediv_of_nonneg i (by omega)];exact q) (.inl (sr hc.2))
theorem ki:OpR X (binaryOp .FloorDiv) (rI (fun _ j=>j≠0∧Big j) fun i j=> .int (i.fdiv j)):=opI fun _ _ _ _ _ _ _ hc q=>floordiv_int hc.1 q (.inl (sr hc.2))
theorem iS (hc:X.calm=true):ci X (.builtin "sum") (fun xs H Q=>∃(p:Addr) (ns:List Int),xs= [.ref p]∧SqL X.K H p (ns.map V.int)∧Q (.int ns.sum) H):=by
 intro pins s σ H xs us Q I r h
 obtain ⟨p,ns,e,hp,q⟩:=h
 subst e
 cases r with
 | @cons _ u _ _ r rr=>
  cases rr
  cases (show u=Value.ref p from r)
  obtain ⟨its,rv,pl,_⟩:=I.list hp
  have hi:=mw rv
  obtain ⟨zs,ez⟩:=hi.allInts.items
  have hl:=pl.isList
  rw [ez] at hl
  refine sum_intListG (I.ok.hd hc) hl fun h' tk t' hk=> ?_
  have e2:preSum (numAt zs) zs.size=ns.sum:=by
   have e3:numsOf (intItems zs).toList=ns:=by
    rw [←ez]
    exact hi.numsOf
   rw [preSum_eq,zg (by simp),←nums_intItems,e3]
  rw [e2]
  exact ⟨.int ns.sum,H,I.kept hk,⟨_,rfl⟩,q⟩
end
theorem Fun.okX {P:Program} {w:World} {K:PySem.W.Frag} {mg:Str→Option Value} {base:Heap} {CX:CXT} {x qual:Str} {st:Stmt} {f:Addr} {fd:FuncData} {N ps:List Str} {k:Nat} {sp:Sp} (F:Fun K x qual st f fd) (S:az N ps (ag st))
 (len:∀vs H Q E,sp vs H Q E→vs.length=ps.length)
 (hbody:∀(cdv:Value) (A:Around) (outer:List Env) (s:Shared) (H:Hp) (vs:List V) (Q:VK) (E:XK),Room k (A.deeper (envOfC qual (ag st) s.heap.objs.size f cdv))→sp vs H Q E→
  ∃t,PSs (cxOf CX P w K mg base N qual (ag st) f cdv A outer s H E) (au st) t∧t {nx:=fun _ H'=>Q .non H',rt:=Q} (eM N vs) H):FnOk P w K mg base CX (k+1) f fd ps sp:=by
 obtain ⟨oc,od,kV,doc,pm,an,cdv,ct,osl,rfl,lk,hcd⟩:=F.ex
 exact vh lk hcd S len fun A outer s H vs Q E hr hsp=>hbody cdv A outer s H vs Q E hr hsp
theorem am:bootBuiltins "isinstance"=some (.builtin "isinstance"):=by decide +kernel
theorem lA:bootBuiltins "sum"=some (.builtin "sum"):=by decide +kernel
theorem lB:bootBuiltins "abs"=some (.builtin "abs"):=by decide +kernel
open PySem PySem.Spec PyProof.Rows
section
variable {X:Cx}
end
section
variable {X:Cx} {CX:CXT} {k:Nat} {f:Addr} {fd:FuncData} {ps:List Str} {sp:Sp} {x:Str} {p pos rpos:Pos} {e:Expr} {es:List Expr} {t:TA}
end
section
variable {X:Cx} {body suite:List Stmt} {b0:Stmt} {tb:TSX} {ts:TS} {cx:Str} {np hpos pos:Pos} {W:Addr}
end
theorem ip (K:PySem.W.Frag):PySem.W.kitOne K (.type "bool") (.type "bool")=some true:=by kernel_rfl
end L2
namespace Tre
open PySem PySem.Spec PyProof.Rows L2
inductive Tr where
 |non
 |bl (b:Bool)
 |int (i:Int)
 |str (x:Str)
 |tup (ts:List Tr)
 |ls
mutual
noncomputable def Tr.depth:Tr→Nat
 | .tup ts=>Trs.depth ts+1
 |_=>0
noncomputable def Trs.depth:List Tr→Nat
 | []=>0
 |t::ts=>max (Tr.depth t) (Trs.depth ts)
end
mutual
def Tr.pure:Tr→Prop
 | .tup ts=>Trs.pure ts
 | .ls=>False
 |_=>True
def Trs.pure:List Tr→Prop
 | []=>True
 |t::ts=>Tr.pure t∧Trs.pure ts
end
mutual
def TrAt (H:Hp):V→Tr→Prop
 |v, .non=>v= .non
 |v, .bl b=>v= .bl b
 |v, .int i=>v= .int i
 |v, .str x=>v= .str x
 |v, .tup ts=>∃r vs,v= .ref r∧H r=some (.tup vs)∧TrsAt H vs ts
 |v, .ls=>∃r xs,v= .ref r∧H r=some (.lst xs)
def TrsAt (H:Hp):List V→List Tr→Prop
 |vs,[]=>vs= []
 |vs,t::ts=>∃v r,vs=v::r∧TrAt H v t∧TrsAt H r ts
end
structure Kd (H H':Hp):Prop where
 tup:∀a xs,H a=some (.tup xs)→H' a=some (.tup xs)
 lst:∀a xs,H a=some (.lst xs)→∃ys,H' a=some (.lst ys)
theorem Kd.refl (H:Hp):Kd H H:=⟨fun _ _ e=>e,fun _ xs e=>⟨xs,e⟩⟩
theorem Kd.trans {H H1 H2:Hp} (a:Kd H H1) (b:Kd H1 H2):Kd H H2:=⟨fun x o e=>b.tup x o (a.tup x o e),fun x o e=>by
 obtain ⟨ys,e1⟩:=a.lst x o e
 exact b.lst x ys e1⟩
theorem Kd.of_same {H H':Hp} (s:Same H H'):Kd H H':=⟨fun a xs e=>s a _ e,fun a xs e=>⟨xs,s a _ e⟩⟩
theorem Kd.upd {H:Hp} {p:Addr} {xs ys:List V} (h:H p=some (.lst xs)):Kd H (upd H p (.lst ys)):=by
 refine ⟨fun a zs e=> ?_,fun a zs e=> ?_⟩
 · rw [aF]
   · exact e
   · intro z
     rw [z,h] at e
     cases e
 · by_cases z:a=p
   · subst z
     exact ⟨ys,ad⟩
   · exact ⟨zs,(aF z).trans e⟩
mutual
theorem TrAt.mono {H H':Hp} (k:Kd H H'):∀ {v:V} {t:Tr},TrAt H v t→TrAt H' v t
 |v, .non,h=>by unfold TrAt at h ⊢;exact h
 |v, .bl b,h=>by unfold TrAt at h ⊢;exact h
 |v, .int i,h=>by unfold TrAt at h ⊢;exact h
 |v, .str x,h=>by unfold TrAt at h ⊢;exact h
 |v, .ls,h=>by
  unfold TrAt at h ⊢
  obtain ⟨r,xs,e,h⟩:=h
  obtain ⟨ys,h'⟩:=k.lst r xs h
  exact ⟨r,ys,e,h'⟩
 |v, .tup ts,h=>by
  unfold TrAt at h ⊢
  obtain ⟨r,vs,e,h1,h2⟩:=h
  exact ⟨r,vs,e,k.tup _ _ h1,TrsAt.mono k h2⟩
theorem TrsAt.mono {H H':Hp} (k:Kd H H'):∀ {vs:List V} {ts:List Tr},TrsAt H vs ts→TrsAt H' vs ts
 |vs,[],h=>by unfold TrsAt at h ⊢;exact h
 |vs,t::ts,h=>by
  unfold TrsAt at h ⊢
  obtain ⟨v,r,e,h1,h2⟩:=h
  exact ⟨v,r,e,TrAt.mono k h1,TrsAt.mono k h2⟩
end
theorem TrsAt.nil {H:Hp}:TrsAt H [] []:=by unfold TrsAt;rfl
theorem TrsAt.cons {H:Hp} {v:V} {t:Tr} {vs:List V} {ts:List Tr} (h:TrAt H v t) (r:TrsAt H vs ts):TrsAt H (v::vs) (t::ts):=by
 unfold TrsAt
 exact ⟨v,vs,rfl,h,r⟩
theorem TrsAt.inv {H:Hp} {t:Tr} {vs:List V} {ts:List Tr} (h:TrsAt H vs (t::ts)):∃v r,vs=v::r∧TrAt H v t∧TrsAt H r ts:=by
 unfold TrsAt at h
 exact h
theorem TrsAt.len {H:Hp}:∀ {vs:List V} {ts:List Tr},TrsAt H vs ts→vs.length=ts.length
 |vs,[],h=>by
  unfold TrsAt at h
  rw [h]
  rfl
 |vs,t::ts,h=>by
  obtain ⟨v,r,e,_,h2⟩:=h.inv
  rw [e,yC,yC,h2.len]
theorem TrsAt.app {H:Hp} {ws:List V} {us:List Tr} (b:TrsAt H ws us):∀ {vs:List V} {ts:List Tr},TrsAt H vs ts→TrsAt H (vs++ws) (ts++us)
 |vs,[],h=>by
  unfold TrsAt at h
  subst h
  exact b
 |vs,t::ts,h=>by
  obtain ⟨v,r,e,h1,h2⟩:=h.inv
  subst e
  exact .cons h1 (TrsAt.app b h2)
theorem TrsAt.get {H:Hp}:∀ {vs:List V} {ts:List Tr} {i:Nat} {t:Tr},TrsAt H vs ts→ts[i]?=some t→∃v,vs[i]?=some v∧TrAt H v t
 |vs,[],i,t,_,e=>by simp at e
 |vs,a::ts,0,t,h,e=>by
  obtain ⟨v,r,rfl,h1,h2⟩:=h.inv
  simp at e
  subst e
  exact ⟨v,rfl,h1⟩
 |vs,a::ts,i+1,t,h,e=>by
  obtain ⟨v,r,rfl,h1,h2⟩:=h.inv
  obtain ⟨u,e1,e2⟩:=h2.get (i:=i) (by simpa using e)
  exact ⟨u,by simpa using e1,e2⟩
theorem TrsAt.get' {H:Hp} {vs:List V} {ts:List Tr} {i:Nat} {v:V} (h:TrsAt H vs ts) (e:vs[i]?=some v):∃t,ts[i]?=some t∧TrAt H v t:=by
 have hl:=h.len
 have hi:i < vs.length:=(yF.mp e).1
 obtain ⟨u,e1,e2⟩:=h.get (i:=i) (t:=ts[i]'(by omega)) (yj _)
 rw [e] at e1
 cases e1
 exact ⟨_,yj _,e2⟩
mutual
theorem TrAt.det {H:Hp}:∀ {v:V} {t u:Tr},TrAt H v t→TrAt H v u→t=u
 |v, .non,u,h1,h2=>by
  unfold TrAt at h1
  subst h1
  cases u<;>unfold TrAt at h2<;>first|rfl|(cases h2;done)|(obtain ⟨_,_,e,_⟩:=h2;cases e)
 |v, .bl b,u,h1,h2=>by
  unfold TrAt at h1
  subst h1
  cases u<;>unfold TrAt at h2<;>first|(cases h2;rfl)|(cases h2;done)|(obtain ⟨_,_,e,_⟩:=h2;cases e)
 |v, .int b,u,h1,h2=>by
  unfold TrAt at h1
  subst h1
  cases u<;>unfold TrAt at h2<;>first|(cases h2;rfl)|(cases h2;done)|(obtain ⟨_,_,e,_⟩:=h2;cases e)
 |v, .str b,u,h1,h2=>by
  unfold TrAt at h1
  subst h1
  cases u<;>unfold TrAt at h2<;>first|(cases h2;rfl)|(cases h2;done)|(obtain ⟨_,_,e,_⟩:=h2;cases e)
 |v, .ls,u,h1,h2=>by
  unfold TrAt at h1
  obtain ⟨r,xs,rfl,h1⟩:=h1
  cases u<;>unfold TrAt at h2<;>first|rfl|(cases h2;done)|(obtain ⟨_,_,e,h2,_⟩:=h2;cases e;rw [h1] at h2;cases h2)
 |v, .tup ts, .tup us,h1,h2=>by
  unfold TrAt at h1 h2
  obtain ⟨r,vs,rfl,h1,h3⟩:=h1
  obtain ⟨r',vs',e,h2,h4⟩:=h2
  cases e
  rw [h1] at h2
  cases h2
  rw [TrsAt.det h3 h4]
 |v, .tup ts, .non,h1,h2=>by unfold TrAt at h1 h2;obtain ⟨_,_,e,_⟩:=h1;rw [h2] at e;cases e
 |v, .tup ts, .bl _,h1,h2=>by unfold TrAt at h1 h2;obtain ⟨_,_,e,_⟩:=h1;rw [h2] at e;cases e
 |v, .tup ts, .int _,h1,h2=>by unfold TrAt at h1 h2;obtain ⟨_,_,e,_⟩:=h1;rw [h2] at e;cases e
 |v, .tup ts, .str _,h1,h2=>by unfold TrAt at h1 h2;obtain ⟨_,_,e,_⟩:=h1;rw [h2] at e;cases e
 |v, .tup ts, .ls,h1,h2=>by
  unfold TrAt at h1 h2
  obtain ⟨r,vs,rfl,h1,_⟩:=h1
  obtain ⟨r',xs,e,h2⟩:=h2
  cases e
  rw [h1] at h2
  cases h2
theorem TrsAt.det {H:Hp}:∀ {vs:List V} {ts us:List Tr},TrsAt H vs ts→TrsAt H vs us→ts=us
 |vs,[],[],_,_=>rfl
 |vs,[],u::us,h1,h2=>by
  have a:=h1.len
  have b:=h2.len
  rw [a] at b
  simp at b
 |vs,t::ts,[],h1,h2=>by
  have a:=h1.len
  have b:=h2.len
  rw [a] at b
  simp at b
 |vs,t::ts,u::us,h1,h2=>by
  obtain ⟨v,r,rfl,h3,h4⟩:=h1.inv
  obtain ⟨v',r',e,h5,h6⟩:=h2.inv
  cases e
  rw [TrAt.det h3 h5,TrsAt.det h4 h6]
end
mutual
noncomputable def eqT:Tr→Tr→Bool
 | .non, .non=>true
 | .bl a, .bl b=>a==b
 | .bl a, .int i=>(if a then 1 else 0)==i
 | .int i, .bl b=>i==(if b then 1 else 0)
 | .int i, .int j=>i==j
 | .str x, .str y=>x==y
 | .tup ts, .tup us=>eqTs ts us
 | .ls, .ls=>true
 |_,_=>false
noncomputable def eqTs:List Tr→List Tr→Bool
 | [],[]=>true
 |t::ts,u::us=>eqT t u&&eqTs ts us
 |_,_=>false
end
mutual
theorem i8:∀t:Tr,eqT t t=true
 | .non=>by simp [eqT]
 | .bl _=>by simp [eqT]
 | .int _=>by simp [eqT]
 | .str _=>by simp [eqT]
 | .ls=>by simp [eqT]
 | .tup ts=>by simp only [eqT];exact eqTs_refl ts
theorem eqTs_refl:∀ts:List Tr,eqTs ts ts=true
 | []=>by simp [eqTs]
 |t::ts=>by simp [eqTs,i8 t,eqTs_refl ts]
end
noncomputable def eqJ (ts us:List Tr) (j:Nat):Bool:=match ts[j]?,us[j]? with
 |some t,some u=>eqT t u
 |_,_=>true
theorem rP {ts us:List Tr} {j:Nat} {t u:Tr} (h1:ts[j]?=some t) (h2:us[j]?=some u):eqJ ts us j=eqT t u:=by
 unfold eqJ
 rw [h1,h2]
theorem dq:∀(ts us:List Tr),eqTs ts us=((List.range (min ts.length us.length)).all (eqJ ts us)&&ts.length==us.length)
 | [],[]=>by simp [eqTs]
 | [],u::us=>by simp [eqTs]
 |t::ts,[]=>by simp [eqTs]
 |t::ts,u::us=>by
  simp only [eqTs,yC]
  rw [dq ts us,show min (ts.length+1) (us.length+1)=min ts.length us.length+1 by omega,List.range_succ_eq_map,List.all_cons,List.all_map]
  have e:(eqJ (t::ts) (u::us)) ∘ Nat.succ=eqJ ts us:=by
   funext j
   simp [eqJ]
  rw [e]
  simp [eqJ,Bool.and_assoc]
open PySem PySem.Spec PyProof.Rows L2
section
variable {X:Cx} {pins:List (Addr×Obj)} {σ:L2.St} {H:Hp} {s:Shared} {A:Around}
theorem oG {a b:Addr} {xs ys:List V} (I:Inv X pins σ H s) (ha:H a=some (.tup xs)) (hb:H b=some (.tup ys)) (hu:A.units < cLine) (e:Nat→Bool) (hne:a≠b)
 (he:∀j x y u v,xs[j]?=some x→ys[j]?=some y→RelV x u→RelV y v→SeqAt.EqAt A.in1 s u v (e j)):
 SeqAt.EqAt A s (.ref a) (.ref b) ((List.range (min xs.length ys.length)).all e&&xs.length==ys.length):=by
 obtain ⟨us,r1,p1,_⟩:=I.tuple (SqT.of ha)
 obtain ⟨ws,r2,p2,_⟩:=I.tuple (SqT.of hb)
 have l1:=r1.length
 have l2:=r2.length
 have:=SeqAt.RcAt.tuples (A:=A) (e:=e) (show s.heap.IsTuple a us.toArray from p1) (show s.heap.IsTuple b ws.toArray from p2) hu fun j h1 h2=>by
  have h1':j < us.length:=by simpa using h1
  have h2':j < ws.length:=by simpa using h2
  obtain ⟨u,e1,q1⟩:=r1.get (i:=j) (x:=xs[j]'(by omega)) (yj _)
  obtain ⟨v,e2,q2⟩:=r2.get (i:=j) (x:=ys[j]'(by omega)) (yj _)
  have z1:us.toArray[j]=u:=by rw [List.getElem_toArray];rw [yj h1'] at e1;exact yP e1
  have z2:ws.toArray[j]=v:=by rw [List.getElem_toArray];rw [yj h2'] at e2;exact yP e2
  rw [z1,z2]
  exact he j _ _ u v (yj _) (yj _) q1 q2
 rw [yp,yp,←l1,←l2] at this
 exact SeqAt.EqAt.of_refs hne this
theorem bq:∀ {ts:List Tr} {t:Tr},t∈ts→t.depth≤Trs.depth ts
 |a::ts,t,h=>by
  unfold Trs.depth
  rcases yk.mp h with rfl|h
  · omega
  · have:=bq h
    omega
theorem dk:∀ {ts:List Tr} {t:Tr},Trs.pure ts→t∈ts→t.pure
 |a::ts,t,p,h=>by
  unfold Trs.pure at p
  rcases yk.mp h with rfl|h
  · exact p.1
  · exact dk p.2 h
theorem cK {r:Addr} {vs:List V} (I:Inv X pins σ H s) (h:H r=some (.tup vs)):∃its:Array Value,s.heap.IsTuple r its:=by
 obtain ⟨us,_,p,_⟩:=I.tuple (SqT.of h)
 exact ⟨_,p⟩
theorem cL {r:Addr} {vs:List V} (I:Inv X pins σ H s) (h:H r=some (.lst vs)):∃its:Array Value,s.heap.IsList r its:=by
 obtain ⟨us,_,p,_⟩:=I.list (SqL.of h)
 exact ⟨_,p.isList⟩
theorem nj (I:Inv X pins σ H s) {A:Around} {t u:Tr} {v w:V} {a b:Value} (hd:∀ts,t≠ .tup ts) (hp:t.pure∨u.pure) (h1:TrAt H v t) (h2:TrAt H w u) (r1:RelV v a) (r2:RelV w b) (hu0:A.units < cLine):SeqAt.EqAt A s a b (eqT t u):=by
 cases t with
 |tup ts=>exact (hd ts rfl).elim
 |non=>
  unfold TrAt at h1
  subst h1
  cases (show a=Value.none from r1)
  cases u with
  |non=>unfold TrAt at h2;subst h2;cases (show b=Value.none from r2);simp only [eqT];exact SeqAt.EqAt.same _
  |bl c=>unfold TrAt at h2;subst h2;cases (show b=Value.bool c from r2);simp only [eqT];exact SeqAt.EqAt.none_bool c
  |int c=>unfold TrAt at h2;subst h2;obtain ⟨t',rfl⟩:=r2;simp only [eqT];exact SeqAt.EqAt.none_int c t'
  |str c=>unfold TrAt at h2;subst h2;obtain ⟨t',rfl⟩:=r2;simp only [eqT];exact SeqAt.EqAt.none_str c t'
  |tup us=>unfold TrAt at h2;obtain ⟨r,vs,rfl,g1,_⟩:=h2;cases r2;obtain ⟨its,p⟩:=cK I g1;simp only [eqT];exact SeqAt.EqAt.none_tuple p hu0
  |ls=>unfold TrAt at h2;obtain ⟨r,vs,rfl,g1⟩:=h2;cases r2;obtain ⟨its,p⟩:=cL I g1;simp only [eqT];exact SeqAt.EqAt.none_list p hu0
 |bl d=>
  unfold TrAt at h1
  subst h1
  cases (show a=Value.bool d from r1)
  cases u with
  |non=>unfold TrAt at h2;subst h2;cases (show b=Value.none from r2);simp only [eqT];exact SeqAt.EqAt.bool_none d
  |bl c=>unfold TrAt at h2;subst h2;cases (show b=Value.bool c from r2);simp only [eqT];exact SeqAt.EqAt.bool_bool d c
  |int c=>unfold TrAt at h2;subst h2;obtain ⟨t',rfl⟩:=r2;simp only [eqT];exact SeqAt.EqAt.bool_int d c t'
  |str c=>unfold TrAt at h2;subst h2;obtain ⟨t',rfl⟩:=r2;simp only [eqT];exact SeqAt.EqAt.bool_str d c t'
  |tup us=>unfold TrAt at h2;obtain ⟨r,vs,rfl,g1,_⟩:=h2;cases r2;obtain ⟨its,p⟩:=cK I g1;simp only [eqT];exact SeqAt.EqAt.bool_tuple d p hu0
  |ls=>unfold TrAt at h2;obtain ⟨r,vs,rfl,g1⟩:=h2;cases r2;obtain ⟨its,p⟩:=cL I g1;simp only [eqT];exact SeqAt.EqAt.bool_list d p hu0
 |int d=>
  unfold TrAt at h1
  subst h1
  obtain ⟨t0,rfl⟩:=r1
  cases u with
  |non=>unfold TrAt at h2;subst h2;cases (show b=Value.none from r2);simp only [eqT];exact SeqAt.EqAt.int_none d t0
  |bl c=>unfold TrAt at h2;subst h2;cases (show b=Value.bool c from r2);simp only [eqT];exact SeqAt.EqAt.int_bool d t0 c
  |int c=>unfold TrAt at h2;subst h2;obtain ⟨t',rfl⟩:=r2;simp only [eqT];exact SeqAt.EqAt.int_int d t0 c t'
  |str c=>unfold TrAt at h2;subst h2;obtain ⟨t',rfl⟩:=r2;simp only [eqT];exact SeqAt.EqAt.int_str d t0 c t'
  |tup us=>unfold TrAt at h2;obtain ⟨r,vs,rfl,g1,_⟩:=h2;cases r2;obtain ⟨its,p⟩:=cK I g1;simp only [eqT];exact SeqAt.EqAt.int_tuple d t0 p hu0
  |ls=>unfold TrAt at h2;obtain ⟨r,vs,rfl,g1⟩:=h2;cases r2;obtain ⟨its,p⟩:=cL I g1;simp only [eqT];exact SeqAt.EqAt.int_list d t0 p hu0
 |str d=>
  unfold TrAt at h1
  subst h1
  obtain ⟨t0,rfl⟩:=r1
  cases u with
  |non=>unfold TrAt at h2;subst h2;cases (show b=Value.none from r2);simp only [eqT];exact SeqAt.EqAt.str_none d t0
  |bl c=>unfold TrAt at h2;subst h2;cases (show b=Value.bool c from r2);simp only [eqT];exact SeqAt.EqAt.str_bool d t0 c
  |int c=>unfold TrAt at h2;subst h2;obtain ⟨t',rfl⟩:=r2;simp only [eqT];exact SeqAt.EqAt.str_int d t0 c t'
  |str c=>unfold TrAt at h2;subst h2;obtain ⟨t',rfl⟩:=r2;simp only [eqT];exact SeqAt.EqAt.str_str d t0 c t'
  |tup us=>unfold TrAt at h2;obtain ⟨r,vs,rfl,g1,_⟩:=h2;cases r2;obtain ⟨its,p⟩:=cK I g1;simp only [eqT];exact SeqAt.EqAt.str_tuple d t0 p hu0
  |ls=>unfold TrAt at h2;obtain ⟨r,vs,rfl,g1⟩:=h2;cases r2;obtain ⟨its,p⟩:=cL I g1;simp only [eqT];exact SeqAt.EqAt.str_list d t0 p hu0
 |ls=>
  unfold TrAt at h1
  obtain ⟨r0,vs0,rfl,g0⟩:=h1
  cases r1
  obtain ⟨its0,p0⟩:=cL I g0
  cases u with
  |non=>unfold TrAt at h2;subst h2;cases (show b=Value.none from r2);simp only [eqT];exact SeqAt.EqAt.list_none p0 hu0
  |bl c=>unfold TrAt at h2;subst h2;cases (show b=Value.bool c from r2);simp only [eqT];exact SeqAt.EqAt.list_bool c p0 hu0
  |int c=>unfold TrAt at h2;subst h2;obtain ⟨t',rfl⟩:=r2;simp only [eqT];exact SeqAt.EqAt.list_int c t' p0 hu0
  |str c=>unfold TrAt at h2;subst h2;obtain ⟨t',rfl⟩:=r2;simp only [eqT];exact SeqAt.EqAt.list_str c t' p0 hu0
  |tup us=>unfold TrAt at h2;obtain ⟨r,vs,rfl,g1,_⟩:=h2;cases r2;obtain ⟨its,p⟩:=cK I g1;simp only [eqT];exact SeqAt.EqAt.list_tuple p0 p hu0
  |ls=>rcases hp with hp|hp<;>simp [Tr.pure] at hp
theorem j5 (I:Inv X pins σ H s):∀(n:Nat) {A:Around} {t u:Tr} {v w:V} {a b:Value},t.depth≤n→(t.pure∨u.pure)→TrAt H v t→TrAt H w u→RelV v a→RelV w b→A.units+n+1 < cLine→SeqAt.EqAt A s a b (eqT t u):=by
 intro n
 induction n with
 |zero=>
  intro A t u v w a b hd hp h1 h2 r1 r2 hu
  refine nj I (fun ts e=> ?_) hp h1 h2 r1 r2 (by omega)
  subst e
  simp [Tr.depth] at hd
 |succ n ih=>
  intro A t u v w a b hd hp h1 h2 r1 r2 hu
  have hu0:A.units < cLine:=by omega
  cases t with
  |tup ts=>
   have h1':=h1
   have h2':=h2
   unfold TrAt at h1
   obtain ⟨r0,vs0,rfl,g0,k0⟩:=h1
   cases r1
   obtain ⟨its0,p0⟩:=cK I g0
   unfold Tr.depth at hd
   cases u with
   |non=>unfold TrAt at h2;subst h2;cases (show b=Value.none from r2);simp only [eqT];exact SeqAt.EqAt.tuple_none p0 hu0
   |bl c=>unfold TrAt at h2;subst h2;cases (show b=Value.bool c from r2);simp only [eqT];exact SeqAt.EqAt.tuple_bool c p0 hu0
   |int c=>unfold TrAt at h2;subst h2;obtain ⟨t',rfl⟩:=r2;simp only [eqT];exact SeqAt.EqAt.tuple_int c t' p0 hu0
   |str c=>unfold TrAt at h2;subst h2;obtain ⟨t',rfl⟩:=r2;simp only [eqT];exact SeqAt.EqAt.tuple_str c t' p0 hu0
   |ls=>unfold TrAt at h2;obtain ⟨r,vs,rfl,g1⟩:=h2;cases r2;obtain ⟨its,p⟩:=cL I g1;simp only [eqT];exact SeqAt.EqAt.tuple_list p0 p hu0
   |tup us=>
    unfold TrAt at h2
    obtain ⟨r,vs,rfl,g1,k1⟩:=h2
    cases r2
    by_cases z:r0=r
    · subst z
      rw [←TrAt.det h1' h2',i8]
      exact SeqAt.EqAt.same _
    · have:=oG I g0 g1 hu0 (eqJ ts us) z fun j x y u' v' m1 m2 q1 q2=>by
       obtain ⟨t1,n1,a1⟩:=k0.get' m1
       obtain ⟨t2,n2,a2⟩:=k1.get' m2
       rw [rP n1 n2]
       refine ih (A:=A.in1) (by have:=bq (yw n1);omega) ?_ a1 a2 q1 q2 (by show A.units+1+n+1 < cLine;omega)
       rcases hp with hp|hp
       · unfold Tr.pure at hp
         exact .inl (dk hp (yw n1))
       · unfold Tr.pure at hp
         exact .inr (dk hp (yw n2))
      rw [k0.len,k1.len,←dq] at this
      simp only [eqT]
      exact this
  |_=>exact nj I (fun ts e=>by cases e) hp h1 h2 r1 r2 hu0
end
open PySem PySem.Spec PyProof.Rows L2
open PySem.AutoSeq1 (wpAny_loadPart')
def LtAt (A:Around) (s:Shared) (y x:Value) (b:Bool):Prop:=
 ∀(prog:Program) (w:World) (E:Value→Shared→Prop) (Q:Value→Shared→Prop),Q (.bool b) s→wpAny (model prog w) A (richCompare .Lt y x) Q E s
def cz (A:Around) (s:Shared):List Value→List Value→List (Bool×Bool)→Prop
 |v::vs,w::ws,(e,l)::q=>SeqAt.EqAt A s v w e∧(e=false→LtAt A s v w l)∧(e=true→cz A s vs ws q)
 | [],_,q=>q= []
 |_,[],q=>q= []
 |_,_,_=>False
noncomputable def lexV (fin:Bool):List (Bool×Bool)→Bool
 | []=>fin
 |(e,l)::q=>if e=true then lexV fin q else l
theorem j1 (l b:Addr) (items items2:Array Value) (n n2:Nat) (dd dd2:Option Addr) (sl sl2:Array (Option Value)) (q:List (Bool×Bool)):
 Meets (Builtin.«tuple.__lt__» ⟨[.ref l, .ref b],[]⟩)
  (fun A R s=>s.heap.get? l=some {cls:= .type "tuple",dict:=dd,data:= .seq items n,slots:=sl}∧s.heap.get? b=some {cls:= .type "tuple",dict:=dd2,data:= .seq items2 n2,slots:=sl2}∧
   cz A.in1 s items.toList items2.toList q∧R (.ok (.ret (.bool (lexV (decide (items.size < items2.size)) q)))) s):=
 .of_wp fun prog w A R s h=>by
  obtain ⟨hp,g,d,tk,os⟩:=s;obtain ⟨hl,hb,hx,h⟩:=h
  have f2:=AutoSeq1.sub_tuple_tuple
  wp_walk using wpAny_loadPart' hl,wpAny_loadPart' hb,wpAny_forIn_list _ (fun rest b s'=>b.1=none∧s'=⟨hp,g,d,tk,os⟩∧∃(vs ws:List Value) (q':List (Bool×Bool)),rest=vs.zip ws∧
   cz A.in1 ⟨hp,g,d,tk,os⟩ vs ws q'∧R (.ok (.ret (.bool (lexV (decide (items.size < items2.size)) q')))) ⟨hp,g,d,tk,os⟩) _
  case turn=>
   rintro ⟨y,x⟩ rest b s' ⟨hb',rfl,vs,ws,q',hz,hlx,hR⟩
   match vs,ws,q',hz,hlx,hR with
   | [],_,_,hz,_,_=>rw [List.zip_nil_left] at hz;cases hz
   |_::_,[],_,hz,_,_=>rw [List.zip_nil_right] at hz;cases hz
   |v::vs,w'::ws,[],_,hlx,_=>exact hlx.elim
   |v::vs,w'::ws,(e,lo)::q',hz,hlx,hR=>
    rw [zj] at hz
    injection hz with hyx hrest
    injection hyx with hy hx'
    subst hy hx'
    obtain ⟨he,hlt,hlx⟩:=hlx
    refine wpAny_bind (he prog w _ _ ?_)
    cases e with
    |true=>
     wp_walk
     exact ⟨rfl,rfl,_,_,_,hrest,hlx rfl,hR⟩
    |false=>
     have hri:=hlt rfl prog w
     wp_walk using hri
     exact ⟨_,rfl,hR⟩
  case fin=>
   rintro ⟨b1,b2⟩ s' ⟨hb',rfl,vs,ws,q',hz,hlx,hR⟩
   simp only at hb'
   subst hb'
   have hq:q'= []:=by
    match vs,ws,q',hz,hlx with
    | [],_,_,_,hlx=>unfold cz at hlx;exact hlx
    |_::_,[],_,_,hlx=>unfold cz at hlx;exact hlx
    |_::_,_::_,_,hz,_=>rw [zj] at hz;cases hz
   subst hq
   wp_walk
   exact ⟨_,rfl,by simpa [Builtin.Tuple.tupleCompareSizes,lexV] using hR⟩
  case h=>
   exact ⟨rfl,rfl,items.toList,items2.toList,q,rfl,hx,h⟩
theorem lJ {A:Around} {s:Shared} {l b:Addr} {items items2:Array Value} {q:List (Bool×Bool)} (hl:s.heap.IsTuple l items) (hb:s.heap.IsTuple b items2) (hu:A.units < cLine)
 (hx:cz A.in1 s items.toList items2.toList q):LtAt A s (.ref l) (.ref b) (lexV (decide (items.size < items2.size)) q):=by
 intro prog w E Q h
 obtain ⟨⟨cls,dd,data,sl⟩,ho,hc,n,hd⟩:=id hl
 obtain ⟨⟨cls2,dd2,data2,sl2⟩,ho2,hc2,n2,hd2⟩:=id hb
 simp only at hc hd hc2 hd2
 subst hc hd hc2 hd2
 exact richCompare_meets_room (op:= .Lt) ⟨_,ho,rfl⟩ ⟨_,ho2,rfl⟩ PySem.F.slot_tuple_lt PySem.F.entry_tuple_lt (PySem.F.args_tuple_lt_2 _ _) (j1 l b items items2 n n2 dd dd2 sl sl2 q)
  ⟨ho,ho2,hx,show Value.bool (lexV (decide (items.size < items2.size)) q)≠Value.notImplemented∧Q (.bool (lexV (decide (items.size < items2.size)) q)) s from ⟨(fun x=>nomatch x),h⟩⟩ hu
open PySem L2
inductive Co where
 |non
 |num (i:Int)
 |str (l:List Nat)
 |tup (cs:List Co)
 |ls
noncomputable def Co.kind:Co→Nat
 | .non=>0
 | .num _=>1
 | .str _=>2
 | .tup _=>3
 | .ls=>4
mutual
noncomputable def code:Tr→Co
 | .non=> .non
 | .bl b=> .num (if b then 1 else 0)
 | .int i=> .num i
 | .str x=> .str x.cps.toList
 | .tup ts=> .tup (codes ts)
 | .ls=> .ls
noncomputable def codes:List Tr→List Co
 | []=> []
 |t::ts=>code t::codes ts
end
theorem eK (x y:Str):((x==y)=true)↔x.cps.toList=y.cps.toList:=by
 rw [beq_iff_eq]
 constructor
 · rintro rfl
   rfl
 · intro h
   cases x
   cases y
   simp only [Str.mk.injEq]
   exact Array.toList_inj.mp h
mutual
theorem du:∀(t u:Tr),(eqT t u=true)↔code t=code u
 | .non,u=>by cases u<;>simp [eqT,code]
 | .bl a,u=>by cases u<;>simp [eqT,code];cases a<;>rename_i b<;>cases b<;>simp
 | .int i,u=>by cases u<;>simp [eqT,code]
 | .str x, .str y=>by simp only [eqT,code,Co.str.injEq];exact eK x y
 | .str x, .non=>by simp [eqT,code]
 | .str x, .bl _=>by simp [eqT,code]
 | .str x, .int _=>by simp [eqT,code]
 | .str x, .tup _=>by simp [eqT,code]
 | .str x, .ls=>by simp [eqT,code]
 | .ls,u=>by cases u<;>simp [eqT,code]
 | .tup ts, .tup us=>by simp only [eqT,code,Co.tup.injEq];exact eqTs_code ts us
 | .tup ts, .non=>by simp [eqT,code]
 | .tup ts, .bl _=>by simp [eqT,code]
 | .tup ts, .int _=>by simp [eqT,code]
 | .tup ts, .str _=>by simp [eqT,code]
 | .tup ts, .ls=>by simp [eqT,code]
theorem eqTs_code:∀(ts us:List Tr),(eqTs ts us=true)↔codes ts=codes us
 | [],[]=>by simp [eqTs,codes]
 | [],u::us=>by simp [eqTs,codes]
 |t::ts,[]=>by simp [eqTs,codes]
 |t::ts,u::us=>by
  simp only [eqTs,codes,yH,zf]
  rw [du t u,eqTs_code ts us]
end
mutual
def LtC:Co→Co→Prop
 | .num i, .num j=>i < j
 | .str l, .str m=>l < m
 | .tup cs, .tup ds=>LtCs cs ds
 |c,d=>c.kind < d.kind
def LtCs:List Co→List Co→Prop
 | [],[]=>False
 | [],_::_=>True
 |_::_,[]=>False
 |c::cs,d::ds=>LtC c d∨(c=d∧LtCs cs ds)
end
theorem ku {c d:Co} (h:LtC c d):c.kind≤d.kind:=by
 cases c<;>cases d<;>simp [LtC,Co.kind] at h ⊢
theorem kr {c d:Co} (h:c.kind < d.kind):LtC c d:=by
 cases c<;>cases d<;>simp [LtC,Co.kind] at h ⊢
mutual
theorem ju:∀c:Co,¬LtC c c
 | .non=>by simp [LtC,Co.kind]
 | .num _=>by simp [LtC]
 | .str l=>by simp only [LtC];exact List.lt_irrefl l
 | .tup cs=>by simp only [LtC];exact ltCs_irr cs
 | .ls=>by simp [LtC,Co.kind]
theorem ltCs_irr:∀cs:List Co,¬LtCs cs cs
 | []=>by simp [LtCs]
 |c::cs=>by
  simp only [LtCs,not_or]
  exact ⟨ju c,fun h=>ltCs_irr cs h.2⟩
end
mutual
theorem jt:∀c d:Co,LtC c d∨c=d∨LtC d c
 | .num i, .num j=>by simp only [LtC,Co.num.injEq];omega
 | .str l, .str m=>by
  simp only [LtC,Co.str.injEq]
  by_cases h1:l < m
  · exact .inl h1
  · by_cases h2:m < l
    · exact .inr (.inr h2)
    · exact .inr (.inl (List.le_antisymm (List.not_lt.mp h2) (List.not_lt.mp h1)))
 | .tup cs, .tup ds=>by simp only [LtC,Co.tup.injEq];exact ltCs_tri cs ds
 | .non,d=>by cases d<;>simp [LtC,Co.kind]
 | .ls,d=>by cases d<;>simp [LtC,Co.kind]
 | .num i, .non=>by simp [LtC,Co.kind]
 | .num i, .str _=>by simp [LtC,Co.kind]
 | .num i, .tup _=>by simp [LtC,Co.kind]
 | .num i, .ls=>by simp [LtC,Co.kind]
 | .str i, .non=>by simp [LtC,Co.kind]
 | .str i, .num _=>by simp [LtC,Co.kind]
 | .str i, .tup _=>by simp [LtC,Co.kind]
 | .str i, .ls=>by simp [LtC,Co.kind]
 | .tup i, .non=>by simp [LtC,Co.kind]
 | .tup i, .num _=>by simp [LtC,Co.kind]
 | .tup i, .str _=>by simp [LtC,Co.kind]
 | .tup i, .ls=>by simp [LtC,Co.kind]
theorem ltCs_tri:∀cs ds:List Co,LtCs cs ds∨cs=ds∨LtCs ds cs
 | [],[]=>by simp
 | [],d::ds=>by simp [LtCs]
 |c::cs,[]=>by simp [LtCs]
 |c::cs,d::ds=>by
  simp only [LtCs,zf]
  rcases jt c d with h|h|h
  · exact .inl (.inl h)
  · rcases ltCs_tri cs ds with g|g|g
    · exact .inl (.inr ⟨h,g⟩)
    · exact .inr (.inl ⟨h,g⟩)
    · exact .inr (.inr (.inr ⟨h.symm,g⟩))
  · exact .inr (.inr (.inl h))
end
theorem aD {a b c:Co} (h1:LtC a b) (h2:LtC b c) (hk:a.kind < b.kind∨b.kind < c.kind):LtC a c:=by
 have k1:=ku h1
 have k2:=ku h2
 exact kr (by omega)
mutual
theorem dE:∀ {a b c:Co},LtC a b→LtC b c→LtC a c
 | .num i, .num j, .num k,h1,h2=>by simp only [LtC] at *;omega
 | .str i, .str j, .str k,h1,h2=>by simp only [LtC] at *;exact List.lt_trans h1 h2
 | .tup i, .tup j, .tup k,h1,h2=>by simp only [LtC] at *;exact ltCs_trans h1 h2
 | .num _, .num _, .str _,h1,h2=>aD h1 h2 (by simp [LtC,Co.kind] at h1 h2 ⊢)
 | .num _, .num _, .tup _,h1,h2=>aD h1 h2 (by simp [LtC,Co.kind] at h1 h2 ⊢)
 | .num _, .num _, .non,h1,h2=>aD h1 h2 (by simp [LtC,Co.kind] at h1 h2 ⊢)
 | .num _, .num _, .ls,h1,h2=>aD h1 h2 (by simp [LtC,Co.kind] at h1 h2 ⊢)
 | .num _, .str _,_,h1,h2=>aD h1 h2 (by simp [LtC,Co.kind] at h1 h2 ⊢)
 | .num _, .tup _,_,h1,h2=>aD h1 h2 (by simp [LtC,Co.kind] at h1 h2 ⊢)
 | .num _, .non,_,h1,h2=>aD h1 h2 (by simp [LtC,Co.kind] at h1 h2 ⊢)
 | .num _, .ls,_,h1,h2=>aD h1 h2 (by simp [LtC,Co.kind] at h1 h2 ⊢)
 | .str _, .str _, .num _,h1,h2=>aD h1 h2 (by simp [LtC,Co.kind] at h1 h2 ⊢)
 | .str _, .str _, .tup _,h1,h2=>aD h1 h2 (by simp [LtC,Co.kind] at h1 h2 ⊢)
 | .str _, .str _, .non,h1,h2=>aD h1 h2 (by simp [LtC,Co.kind] at h1 h2 ⊢)
 | .str _, .str _, .ls,h1,h2=>aD h1 h2 (by simp [LtC,Co.kind] at h1 h2 ⊢)
 | .str _, .num _,_,h1,h2=>aD h1 h2 (by simp [LtC,Co.kind] at h1 h2 ⊢)
 | .str _, .tup _,_,h1,h2=>aD h1 h2 (by simp [LtC,Co.kind] at h1 h2 ⊢)
 | .str _, .non,_,h1,h2=>aD h1 h2 (by simp [LtC,Co.kind] at h1 h2 ⊢)
 | .str _, .ls,_,h1,h2=>aD h1 h2 (by simp [LtC,Co.kind] at h1 h2 ⊢)
 | .tup _, .tup _, .num _,h1,h2=>aD h1 h2 (by simp [LtC,Co.kind] at h1 h2 ⊢)
 | .tup _, .tup _, .str _,h1,h2=>aD h1 h2 (by simp [LtC,Co.kind] at h1 h2 ⊢)
 | .tup _, .tup _, .non,h1,h2=>aD h1 h2 (by simp [LtC,Co.kind] at h1 h2 ⊢)
 | .tup _, .tup _, .ls,h1,h2=>aD h1 h2 (by simp [LtC,Co.kind] at h1 h2 ⊢)
 | .tup _, .num _,_,h1,h2=>aD h1 h2 (by simp [LtC,Co.kind] at h1 h2 ⊢)
 | .tup _, .str _,_,h1,h2=>aD h1 h2 (by simp [LtC,Co.kind] at h1 h2 ⊢)
 | .tup _, .non,_,h1,h2=>aD h1 h2 (by simp [LtC,Co.kind] at h1 h2 ⊢)
 | .tup _, .ls,_,h1,h2=>aD h1 h2 (by simp [LtC,Co.kind] at h1 h2 ⊢)
 | .non,b,_,h1,h2=>aD h1 h2 (by cases b<;>simp [LtC,Co.kind] at h1 h2 ⊢)
 | .ls,b,_,h1,h2=>aD h1 h2 (by cases b<;>simp [LtC,Co.kind] at h1 h2 ⊢)
theorem ltCs_trans:∀ {a b c:List Co},LtCs a b→LtCs b c→LtCs a c
 | [],[],_,h1,_=>by simp [LtCs] at h1
 | [],_::_,[],_,h2=>by simp [LtCs] at h2
 | [],_::_,_::_,_,_=>by simp [LtCs]
 |_::_,[],_,h1,_=>by simp [LtCs] at h1
 |_::_,_::_,[],_,h2=>by simp [LtCs] at h2
 |x::a,y::b,z::c,h1,h2=>by
  simp only [LtCs] at*
  rcases h1 with h1|⟨e1,h1⟩
  · rcases h2 with h2|⟨e2,h2⟩
    · exact .inl (dE h1 h2)
    · exact .inl (e2▸h1)
  · rcases h2 with h2|⟨e2,h2⟩
    · exact .inl (e1▸h2)
    · exact .inr ⟨e1.trans e2,ltCs_trans h1 h2⟩
end
open Classical in
noncomputable def ltT (t u:Tr):Bool:=decide (LtC (code t) (code u))
open Classical in
theorem ltT_iff {t u:Tr}:(ltT t u=true)↔LtC (code t) (code u):=by
 unfold ltT
 exact decide_eq_true_iff
theorem eQ {t u:Tr} (h:ltT t u=true):ltT u t=false:=by
 cases e:ltT u t with
 |false=>rfl
 |true=>exact absurd (dE (ltT_iff.mp h) (ltT_iff.mp e)) (ju _)
theorem r9 {a b c:Tr} (h1:ltT b a=false) (h2:ltT c b=false):ltT c a=false:=by
 cases e:ltT c a with
 |false=>rfl
 |true=>
  have n1:¬LtC (code b) (code a):=fun z=>by rw [ltT_iff.mpr z] at h1;cases h1
  have n2:¬LtC (code c) (code b):=fun z=>by rw [ltT_iff.mpr z] at h2;cases h2
  have l:=ltT_iff.mp e
  rcases jt (code a) (code b) with q|q|q
  · exact absurd (dE l q) n2
  · rw [q] at l
    exact absurd l n2
  · exact absurd q n1
theorem wk {a b:Tr} (h1:ltT a b=false) (h2:ltT b a=false):eqT a b=true:=by
 rw [du]
 rcases jt (code a) (code b) with q|q|q
 · rw [ltT_iff.mpr q] at h1
   cases h1
 · exact q
 · rw [ltT_iff.mpr q] at h2
   cases h2
open PySem PySem.Spec PyProof.Rows L2
mutual
def Cm:Tr→Tr→Prop
 | .bl _, .bl _=>True
 | .int _, .int _=>True
 | .str _, .str _=>True
 | .tup ts, .tup us=>Cms ts us
 |_,_=>False
def Cms:List Tr→List Tr→Prop
 |t::ts,u::us=>(eqT t u=true∧Cms ts us)∨(eqT t u=false∧Cm t u)
 | [],_=>True
 |_::_,[]=>True
end
noncomputable def qs:List Tr→List Tr→List (Bool×Bool)
 |t::ts,u::us=>(eqT t u,ltT t u)::qs ts us
 | [],_=> []
 |_::_,[]=> []
theorem gh:∀(ts us:List Tr),(lexV (decide (ts.length < us.length)) (qs ts us)=true)↔LtCs (codes ts) (codes us)
 | [],[]=>by simp [qs,lexV,codes,LtCs]
 | [],u::us=>by simp [qs,lexV,codes,LtCs]
 |t::ts,[]=>by simp [qs,lexV,codes,LtCs]
 |t::ts,u::us=>by
  have ih:=gh ts us
  have e:decide ((t::ts).length < (u::us).length)=decide (ts.length < us.length):=by simp
  rw [e]
  simp only [qs,lexV,codes,LtCs]
  by_cases h:eqT t u=true
  · rw [if_pos h,ih]
    have hc:=(du t u).mp h
    rw [hc]
    constructor
    · intro z
      exact .inr ⟨rfl,z⟩
    · rintro (z|⟨_,z⟩)
      · exact absurd z (ju _)
      · exact z
  · rw [if_neg h]
    have hc:¬code t=code u:=fun z=>h ((du t u).mpr z)
    constructor
    · intro z
      exact .inl (ltT_iff.mp z)
    · rintro (z|⟨z,_⟩)
      · exact ltT_iff.mpr z
      · exact absurd z hc
theorem ba {a b:Bool} (h:(a=true)↔(b=true)):a=b:=zc.mpr h
section
variable {X:Cx} {pins:List (Addr×Obj)} {σ:L2.St} {H:Hp} {s:Shared}
theorem jv (I:Inv X pins σ H s) {n:Nat} {A:Around} (hu:A.units+n+1 < cLine)
 (ih:∀ {t u:Tr} {v w:V} {a b:Value},t.depth≤n→(t.pure∨u.pure)→Cm t u→TrAt H v t→TrAt H w u→RelV v a→RelV w b→LtAt A s a b (ltT t u)):
 ∀ {ts us:List Tr} {vs ws:List V} {as bs:List Value},Trs.depth ts≤n→(Trs.pure ts∨Trs.pure us)→Cms ts us→TrsAt H vs ts→TrsAt H ws us→Vals vs as→Vals ws bs→cz A s as bs (qs ts us)
 | [],us,vs,ws,as,bs,hd,hp,hc,h1,h2,r1,r2=>by
  unfold TrsAt at h1
  subst h1
  cases r1
  cases us<;>simp [cz,qs]
 |t::ts,[],vs,ws,as,bs,hd,hp,hc,h1,h2,r1,r2=>by
  unfold TrsAt at h2
  subst h2
  cases r2
  obtain ⟨v,r,rfl,_,_⟩:=h1.inv
  cases r1
  simp [cz,qs]
 |t::ts,u::us,vs,ws,as,bs,hd,hp,hc,h1,h2,r1,r2=>by
  obtain ⟨v,r,rfl,g1,g2⟩:=h1.inv
  obtain ⟨v',r',rfl,g3,g4⟩:=h2.inv
  unfold Trs.depth at hd
  have hp1:t.pure∨u.pure:=by
   rcases hp with hp|hp<;>unfold Trs.pure at hp
   · exact .inl hp.1
   · exact .inr hp.1
  have hp2:Trs.pure ts∨Trs.pure us:=by
   rcases hp with hp|hp<;>unfold Trs.pure at hp
   · exact .inl hp.2
   · exact .inr hp.2
  cases r1 with
  |cons q1 q2=>
   cases r2 with
   |cons q3 q4=>
    simp only [cz,qs]
    refine ⟨j5 I n (by omega) hp1 g1 g3 q1 q3 hu,fun e=> ?_,fun e=> ?_⟩
    · unfold Cms at hc
      rcases hc with ⟨e',_⟩|⟨_,hc⟩
      · rw [e] at e'
        cases e'
      · exact ih (by omega) hp1 hc g1 g3 q1 q3
    · unfold Cms at hc
      rcases hc with ⟨_,hc⟩|⟨e',_⟩
      · exact jv I hu ih (by omega) hp2 hc g2 g4 q2 q4
      · rw [e] at e'
        cases e'
theorem ni {A:Around} {t u:Tr} {v w:V} {a b:Value} (hd:∀ts,t≠ .tup ts) (hc:Cm t u) (h1:TrAt H v t) (h2:TrAt H w u) (r1:RelV v a) (r2:RelV w b):LtAt A s a b (ltT t u):=by
 cases t<;>cases u<;>unfold Cm at hc<;>first|exact hc.elim|skip
 · rename_i x y
   unfold TrAt at h1 h2
   subst h1 h2
   cases (show a=Value.bool x from r1)
   cases (show b=Value.bool y from r2)
   intro prog w' E Q h
   refine lt_bool ?_
   have e:decide (b2i x < b2i y)=ltT (.bl x) (.bl y):=by
    refine ba ?_
    rw [ltT_iff,decide_eq_true_iff]
    cases x<;>cases y<;>simp [code,LtC,b2i]
   rw [e]
   exact h
 · rename_i x y
   unfold TrAt at h1 h2
   subst h1 h2
   obtain ⟨t1,rfl⟩:=r1
   obtain ⟨t2,rfl⟩:=r2
   intro prog w' E Q h
   refine lt_int ?_
   have e:decide (x < y)=ltT (.int x) (.int y):=by
    refine ba ?_
    rw [ltT_iff,decide_eq_true_iff]
    simp [code,LtC]
   rw [e]
   exact h
 · rename_i x y
   unfold TrAt at h1 h2
   subst h1 h2
   obtain ⟨t1,rfl⟩:=r1
   obtain ⟨t2,rfl⟩:=r2
   intro prog w' E Q h
   refine lt_str ?_
   have e:decide (x.cps.toList < y.cps.toList)=ltT (.str x) (.str y):=by
    refine ba ?_
    rw [ltT_iff,decide_eq_true_iff]
    simp [code,LtC]
   rw [e]
   exact h
 · exact (hd _ rfl).elim
theorem j4 (I:Inv X pins σ H s):∀(n:Nat) {A:Around} {t u:Tr} {v w:V} {a b:Value},t.depth≤n→(t.pure∨u.pure)→Cm t u→TrAt H v t→TrAt H w u→RelV v a→RelV w b→A.units+n+1 < cLine→LtAt A s a b (ltT t u):=by
 intro n
 induction n with
 |zero=>
  intro A t u v w a b hd hp hc h1 h2 r1 r2 hu
  refine ni (fun ts e=> ?_) hc h1 h2 r1 r2
  subst e
  simp [Tr.depth] at hd
 |succ n ih=>
  intro A t u v w a b hd hp hc h1 h2 r1 r2 hu
  cases t with
  |tup ts=>
   cases u<;>first|(unfold Cm at hc;exact hc.elim)|skip
   rename_i us
   unfold Cm at hc
   unfold TrAt at h1 h2
   obtain ⟨r0,vs0,rfl,g0,k0⟩:=h1
   obtain ⟨r,vs,rfl,g1,k1⟩:=h2
   cases r1
   cases r2
   obtain ⟨as,q0,p0,_⟩:=I.tuple (SqT.of g0)
   obtain ⟨bs,q1,p1,_⟩:=I.tuple (SqT.of g1)
   unfold Tr.depth at hd
   have hp':Trs.pure ts∨Trs.pure us:=by
    rcases hp with hp|hp<;>unfold Tr.pure at hp
    · exact .inl hp
    · exact .inr hp
   have hu1:A.in1.units+n+1 < cLine:=by show A.units+1+n+1 < cLine;omega
   have hx:=jv (A:=A.in1) I hu1 (fun d pp cc a1 a2 b1 b2=>ih d pp cc a1 a2 b1 b2 hu1) (by omega) hp' hc k0 k1 q0 q1
   have:=lJ (A:=A) (show s.heap.IsTuple r0 as.toArray from p0) (show s.heap.IsTuple r bs.toArray from p1) (by omega) (by simpa using hx)
   have e:lexV (decide (as.toArray.size < bs.toArray.size)) (qs ts us)=ltT (.tup ts) (.tup us):=by
    have l0:=k0.len
    have l1:=k1.len
    have l2:=q0.length
    have l3:=q1.length
    have e2:decide (as.toArray.size < bs.toArray.size)=decide (ts.length < us.length):=by
     rw [yp,yp,←l2,←l3,l0,l1]
    rw [e2]
    refine ba ?_
    rw [gh,ltT_iff]
    simp [code,LtC]
   rw [←e]
   exact this
  |_=>exact ni (fun ts e=>by cases e) hc h1 h2 r1 r2
end
end Tre
namespace Srt
open PySem PySem.W PySem.Calls PyProof.Rows
theorem dy {α:Type} (d:α):∀(vs:List α),(List.range vs.length).map (fun i=>vs.getD i d)=vs
 | []=>rfl
 |v::vs=>by
  rw [yC,List.range_succ_eq_map,yD,List.map_map]
  have:=dy d vs
  simp only [Function.comp_def]
  show v::List.map (fun i=>vs.getD i d) (List.range vs.length)=v::vs
  rw [this]
theorem mQ {α:Type}:∀(vs:List α),List.map (fun x=>x.snd) (vs.zip vs)=vs
 | []=>rfl
 |v::vs=>by
  rw [zj,yD,mQ vs]
section
variable {prog:Program} {w:World} {A:Around} {E:Value→Shared→Prop} {s:Shared} {lt:Nat→Nat→Bool} {κ:SortKind}
def Stay (s:Shared) (a:Addr) (h':Heap):Prop:=∀b o,b≠a→s.heap.get? b=some o→h'.get? b=some o
theorem dR {a:Addr} {vs:List Value} {n:Nat} {P:PySem.Fin→Shared→Prop} (O:Ord lt) (ho:s.heap.get? a=some (seqObj "list" vs.toArray n)) (h64:vs.length < 64)
 (hkind:2≤vs.length→∀h',Stay s a h'→∀R:SortKind→Shared→Prop,R κ {s with heap:=h'}→wpAny (model prog w) A (keyKind' vs.toArray) R E {s with heap:=h'})
 (hask:∀h',Stay s a h'→∀i j (R:Bool→Shared→Prop),i < vs.length→j < vs.length→R (lt i j) {s with heap:=h'}→kas_ask prog w A κ vs i j R {s with heap:=h'})
 (h:∀p:Array Nat,Pm vs.length p→Up lt p vs.length→P (.done (.ret .none)) {s with heap:=sortedHeap s.heap a vs (List.toArray (p.toList.map fun i=>vs.getD i Value.none))}):
 wpAny (model prog w) A (Builtin.«list.sort» ⟨[.ref a],[]⟩) P E s:=by
 have ha:a < s.heap.objs.size:=Heap.lt_size ho
 rw [list_sort_plain]
 refine wpAny_bind (listItems_at ho rfl ?_)
 refine wpAny_bind (listUpdate_at ho rfl ?_ (by rw [yp,sizeLine_eq];omega) (yO _))
 obtain ⟨e1,ho1⟩:∃e1,(s.heap.update a (Obj.mapSeq fun _=>(#[]:Array Value))).get? a=some (seqObj "list" #[] e1):=⟨_,get?_update_seq ho fun _=> #[]⟩
 refine wpAny_bind (seqEpoch_at ho1 rfl ?_)
 refine wpAny_bind (wpAny_newTuple ?_ (by show vs.length≤_;rw [sizeLine_eq];omega))
 refine wpAny_bind (wpAny_newList ?_ (yO _))
 refine wpAny_holding ?_
 have s1:=Heap.SameBut.update s.heap a (Obj.mapSeq fun _=>(#[]:Array Value))
 have st:Stay s a (((s.heap.update a (Obj.mapSeq fun _=>(#[]:Array Value))).push (seqObj "tuple" vs.toArray 0)).push (seqObj "list" #[] 0)):=fun b o hb e=>
  Heap.get?_push_of_some _ (Heap.get?_push_of_some _ ((s1.2 b hb).trans e))
 have ho6:(((s.heap.update a (Obj.mapSeq fun _=>(#[]:Array Value))).push (seqObj "tuple" vs.toArray 0)).push (seqObj "list" #[] 0)).get? a=some (seqObj "list" #[] e1):=Heap.get?_push_of_some _ (Heap.get?_push_of_some _ ho1)
 show wpAny (model prog w) A _ P E {s with heap:=((s.heap.update a (Obj.mapSeq fun _=>(#[]:Array Value))).push (seqObj "tuple" vs.toArray 0)).push (seqObj "list" #[] 0)}
 dsimp only
 have out:∀p:Array Nat,Pm vs.length p→(List.toArray (p.toList.map fun i=>vs.getD i Value.none)).size≤sizeLine:=fun p hp=>by
  rw [yp,yo,yy,hp.size,sizeLine_eq]
  omega
 by_cases h2:vs.toArray.size < 2
 · rw [if_pos h2,if_pos h2]
   refine wpAny_bind (wpAny_pure ?_)
   rw [StateT.run_pure]
   refine wpAny_bind (wpAny_pure ?_)
   dsimp only
   refine wpAny_bind (seqEpoch_at ho6 rfl ?_)
   have h0:Pm vs.length (List.toArray (List.range vs.length)):=by
    unfold Pm
    simp
   have eo:(arrOf (SortSt.mk' general' (vs.toArray.zip vs.toArray) #[] 7 none)).map (·.2)=List.toArray ((List.toArray (List.range vs.length)).toList.map fun i=>vs.getD i Value.none):=by
    rw [zq,dy]
    show (vs.toArray.zip vs.toArray).map (·.2)=vs.toArray
    apply Array.toList_inj.mp
    simp
    exact mQ vs
   rw [eo]
   refine wpAny_bind (listUpdate_at ho6 rfl ?_ (yO _) (Nat.le_succ_of_le (out _ h0)))
   simp only [bne_self_eq_false,yA,if_false]
   refine wpAny_pure (h _ h0 fun i j hij hj=> ?_)
   have hv:vs.length < 2:=by simpa using h2
   have:i=j:=by omega
   subst this
   exact O.refl _
 · rw [if_neg h2,if_neg h2]
   have h2':2≤vs.length:=by
    rw [yp] at h2
    omega
   refine wpAny_bind (hkind h2' _ st _ ?_)
   have run:(kas_sort vs.length).kasWp (kas_ask prog w A κ vs) (fun p s'=>(Pm vs.length p∧Up lt p vs.length)∧s'= {s with heap:=((s.heap.update a (Obj.mapSeq fun _=>(#[]:Array Value))).push (seqObj "tuple" vs.toArray 0)).push (seqObj "list" #[] 0)})
    {s with heap:=((s.heap.update a (Obj.mapSeq fun _=>(#[]:Array Value))).push (seqObj "tuple" vs.toArray 0)).push (seqObj "list" #[] 0)}:=
    pE (lt:=lt) (N:=vs.length) (G:=fun s'=>s'= {s with heap:=((s.heap.update a (Obj.mapSeq fun _=>(#[]:Array Value))).push (seqObj "tuple" vs.toArray 0)).push (seqObj "list" #[] 0)})
     (fun i j R s' hi hj hg hR=>by subst hg;exact hask _ st i j R hi hj (hR _ rfl)) (fun p s' hp hg=>⟨hp,hg⟩) (vw O (by omega)) rfl
   refine wpAny_bind (wpAny_mono (kat_run (ks:=vs) (Q:=fun st' s'=>∃p:Array Nat,(Pm vs.length p∧Up lt p vs.length)∧arrOf st'=p.map (kas_item (vs.toArray.zip vs.toArray))∧failedOf st'=none∧s'= {s with heap:=((s.heap.update a (Obj.mapSeq fun _=>(#[]:Array Value))).push (seqObj "tuple" vs.toArray 0)).push (seqObj "list" #[] 0)})
    rfl h2' h64 (fun p st' s' a1 a2 a3 a4=>⟨p,a4.1,a2,a3,a4.2⟩) run) ?_ fun _ _ e=>e)
   rintro ⟨⟨⟩,st'⟩ s' ⟨p,hp,har,hf,rfl⟩
   dsimp only
   refine wpAny_bind (seqEpoch_at ho6 rfl ?_)
   rw [kat_snds rfl har]
   refine wpAny_bind (listUpdate_at ho6 rfl ?_ (yO _) (Nat.le_succ_of_le (out p hp.1)))
   rw [hf]
   simp only [bne_self_eq_false,yA,if_false]
   exact wpAny_pure (h p hp.1 hp.2)
end
end Srt
namespace Tre
open PySem PySem.Spec PyProof.Rows L2 Srt
theorem TrsAt.map {H:Hp} {vs:List V} {ts:List Tr} (h:TrsAt H vs ts):∀ {is:List Nat},(∀i∈is,i < ts.length)→TrsAt H (is.map fun i=>vs.getD i .non) (is.map fun i=>ts.getD i .non)
 | [],_=> .nil
 |i::is,hi=>by
  have h0:i < ts.length:=hi i yn
  have hl:=h.len
  obtain ⟨v,e1,e2⟩:=h.get (i:=i) (t:=ts[i]) (yj h0)
  have ev:vs.getD i .non=v:=by rw [yS,e1];rfl
  have et:ts.getD i .non=ts[i]:=by rw [yS,yj h0];rfl
  rw [yD,yD,ev,et]
  exact .cons e2 (TrsAt.map h fun j m=>hi j (ym _ m))
theorem Vals.map {vs:List V} {as:List Value} (h:Vals vs as):∀ {is:List Nat},(∀i∈is,i < vs.length)→Vals (is.map fun i=>vs.getD i .non) (is.map fun i=>as.getD i Value.none)
 | [],_=> .nil
 |i::is,hi=>by
  have h0:i < vs.length:=hi i yn
  obtain ⟨u,e1,e2⟩:=h.get (i:=i) (x:=vs[i]) (yj h0)
  have ev:vs.getD i .non=vs[i]:=by rw [yS,yj h0];rfl
  have et:as.getD i Value.none=u:=by rw [yS,e1];rfl
  rw [yD,yD,ev,et]
  exact .cons e2 (Vals.map h fun j m=>hi j (ym _ m))
section
variable {X:Cx} {pins:List (Addr×Obj)} {σ:L2.St} {H:Hp} {s:Shared}
theorem eH (I:Inv X pins σ H s) {r:Addr} {vs:List V} (h:H r=some (.tup vs)):∃(as:List Value) (o:Obj) (n:Nat),Vals vs as∧s.heap.get? r=some o∧o.cls= .type "tuple"∧o.data= .seq as.toArray n:=by
 obtain ⟨as,q,p,_⟩:=I.tuple (SqT.of h)
 obtain ⟨o,ho,hc,n,hd⟩:=(show s.heap.IsTuple r as.toArray from p)
 exact ⟨as,o,n,q,ho,hc,hd⟩
end
open PySem L2
inductive So where
 |tm|fr|pr|ws|lt
abbrev s_ (x:String):Tr:= .str (Str.ofString x)
inductive Ty:So→Tr→Prop
 |nm (x:Str):Ty .tm (.tup [s_ "name", .str x])
 |ap (x:Str) (ts:List Tr):ts.length≤3→(∀t∈ts,Ty .tm t)→Ty .tm (.tup [s_ "call", .str x, .tup ts])
 |fr (a b:Int):Ty .fr (.tup [.int a, .int b])
 |pr (t f:Tr):Ty .tm t→Ty .fr f→Ty .pr (.tup [t,f])
 |fl (x:Str):Ty .ws (.tup [s_ "flag", .str x])
 |mo (ps:List Tr) (f:Tr):(∀p∈ps,Ty .pr p)→Ty .fr f→Ty .ws (.tup [s_ "most", .tup ps,f])
 |li (t u:Tr):Ty .tm t→Ty .tm u→Ty .ws (.tup [s_ "like",t,u])
 |no (w:Tr):Ty .ws w→Ty .ws (.tup [s_ "not",w])
 |bo (l:List Tr):(∀w∈l,Ty .ws w)→Ty .ws (.tup [s_ "both", .tup l])
 |ei (l:List Tr):(∀w∈l,Ty .ws w)→Ty .ws (.tup [s_ "either", .tup l])
 |lt (w:Tr) (b:Bool):Ty .ws w→Ty .lt (.tup [w, .bl b])
theorem aI {t u:Tr} {ts us:List Tr} (h1:eqT t u=false→Cm t u) (h2:Cms ts us):Cms (t::ts) (u::us):=by
 unfold Cms
 cases e:eqT t u with
 |true=>exact .inl ⟨rfl,h2⟩
 |false=>exact .inr ⟨rfl,h1 e⟩
theorem wT {t u:Tr} {ts us:List Tr} (h0:eqT t u=false) (h1:Cm t u):Cms (t::ts) (u::us):=by
 unfold Cms
 exact .inr ⟨h0,h1⟩
theorem bB {us:List Tr}:Cms [] us:=by
 cases us<;>simp [Cms]
theorem cb (x y:Str):Cm (.str x) (.str y):=by simp [Cm]
theorem rZ (x y:Int):Cm (.int x) (.int y):=by simp [Cm]
theorem yd (x y:Bool):Cm (.bl x) (.bl y):=by simp [Cm]
theorem ie {ts us:List Tr} (h:Cms ts us):Cm (.tup ts) (.tup us):=by
 unfold Cm
 exact h
theorem gr {ts us:List Tr} (h:∀t∈ts,∀u∈us,Cm t u):Cms ts us:=by
 induction ts generalizing us with
 |nil=>exact bB
 |cons t ts ih=>
  cases us with
  |nil=>simp [Cms]
  |cons u us=>exact aI (fun _=>h t yn u yn) (ih fun a ma b mb=>h a (ym _ ma) b (ym _ mb))
theorem pA:∀(n:Nat) {k:So} {t u:Tr},t.depth≤n→Ty k t→Ty k u→Cm t u:=by
 intro n
 induction n with
 |zero=>
  intro k t u hd h1 h2
  cases h1<;>simp [Tr.depth] at hd
 |succ n ih=>
  intro k t u hd h1 h2
  have sub:∀ {ts:List Tr} {t:Tr},(Tr.tup ts).depth≤n+1→t∈ts→t.depth≤n:=fun h m=>by
   unfold Tr.depth at h
   have:=bq m
   omega
  have sub2:∀ {ts l:List Tr} {t:Tr},(Tr.tup ts).depth≤n+1→Tr.tup l∈ts→t∈l→t.depth≤n:=fun h m m2=>by
   have h3:=sub h m
   unfold Tr.depth at h3
   have:=bq m2
   omega
  cases h1<;>cases h2<;>refine ie ?_
  all_goals first
   |exact wT (by decide +kernel) (cb _ _)
   |skip
  · exact aI (fun _=>cb _ _) (aI (fun _=>cb _ _) bB)
  · rename_i x ts _ h1 y us _ h2
    exact aI (fun _=>cb _ _) (aI (fun _=>cb _ _) (aI (fun _=>ie (gr fun a ma b mb=>ih (sub2 hd (by simp) ma) (h1 a ma) (h2 b mb))) bB))
  · exact aI (fun _=>rZ _ _) (aI (fun _=>rZ _ _) bB)
  · rename_i t1 f1 a1 b1 t2 f2 a2 b2
    exact aI (fun _=>ih (sub hd (by simp)) a1 a2) (aI (fun _=>ih (sub hd (by simp)) b1 b2) bB)
  · exact aI (fun _=>cb _ _) (aI (fun _=>cb _ _) bB)
  · rename_i p1 f1 a1 b1 p2 f2 a2 b2
    exact aI (fun _=>cb _ _) (aI (fun _=>ie (gr fun a ma b mb=>ih (sub2 hd (by simp) ma) (a1 a ma) (a2 b mb))) (aI (fun _=>ih (sub hd (by simp)) b1 b2) bB))
  · rename_i t1 u1 a1 b1 t2 u2 a2 b2
    exact aI (fun _=>cb _ _) (aI (fun _=>ih (sub hd (by simp)) a1 a2) (aI (fun _=>ih (sub hd (by simp)) b1 b2) bB))
  · rename_i w1 a1 w2 a2
    exact aI (fun _=>cb _ _) (aI (fun _=>ih (sub hd (by simp)) a1 a2) bB)
  · rename_i l1 a1 l2 a2
    exact aI (fun _=>cb _ _) (aI (fun _=>ie (gr fun a ma b mb=>ih (sub2 hd (by simp) ma) (a1 a ma) (a2 b mb))) bB)
  · rename_i l1 a1 l2 a2
    exact aI (fun _=>cb _ _) (aI (fun _=>ie (gr fun a ma b mb=>ih (sub2 hd (by simp) ma) (a1 a ma) (a2 b mb))) bB)
  · rename_i w1 b1 a1 w2 b2 a2
    exact aI (fun _=>ih (sub hd (by simp)) a1 a2) (aI (fun _=>yd _ _) bB)
theorem dl {ts:List Tr} (h:∀t∈ts,t.pure):Trs.pure ts:=by
 induction ts with
 |nil=>unfold Trs.pure;trivial
 |cons t ts ih=>
  unfold Trs.pure
  exact ⟨h t yn,ih fun u m=>h u (ym _ m)⟩
theorem cT {k:So} {t:Tr} (h:Ty k t):t.pure:=by
 induction h with
 |nm x=>simp [Tr.pure,Trs.pure]
 |ap x ts _ _ ih=>simp only [Tr.pure,Trs.pure];exact ⟨trivial,trivial,dl ih,trivial⟩
 |fr a b=>simp [Tr.pure,Trs.pure]
 |pr t f _ _ h1 h2=>simp only [Tr.pure,Trs.pure];exact ⟨h1,h2,trivial⟩
 |fl x=>simp [Tr.pure,Trs.pure]
 |mo ps f _ _ h1 h2=>simp only [Tr.pure,Trs.pure];exact ⟨trivial,dl h1,h2,trivial⟩
 |li t u _ _ h1 h2=>simp only [Tr.pure,Trs.pure];exact ⟨trivial,h1,h2,trivial⟩
 |no w _ h1=>simp only [Tr.pure,Trs.pure];exact ⟨trivial,h1,trivial⟩
 |bo l _ h1=>simp only [Tr.pure,Trs.pure];exact ⟨trivial,dl h1,trivial⟩
 |ei l _ h1=>simp only [Tr.pure,Trs.pure];exact ⟨trivial,dl h1,trivial⟩
 |lt w b _ h1=>simp only [Tr.pure,Trs.pure];exact ⟨h1,trivial,trivial⟩
end Tre
namespace Mth
theorem rK (a b:Int):Int.gcd b (a.fmod b)=Int.gcd a b:=by
 have e:a.fmod b=a - b*a.fdiv b:=Int.fmod_def a b
 rw [e,Int.gcd_comm a b]
 have:a - b*a.fdiv b=a+b*(-(a.fdiv b)):=by rw [Int.mul_neg,Int.sub_eq_add_neg]
 rw [this]
 exact Int.gcd_add_mul_left_right ..
theorem uu {a b:Int} (h:b≠0):(a.fmod b).natAbs < b.natAbs:=by
 by_cases hb:0 < b
 · have h1:=Int.fmod_nonneg_of_pos a hb
   have h2:=Int.fmod_lt_of_pos a hb
   omega
 · have h3:0 < -b:=by omega
   have e:a.fmod b= -((-a).fmod (-b)):=by
    rw [Int.neg_fmod_neg,Int.neg_neg]
   have h1:=Int.fmod_nonneg_of_pos (-a) h3
   have h2:=Int.fmod_lt_of_pos (-a) h3
   omega
noncomputable def dv (t b:Int):Int:=if b < 0 then -(Int.gcd t b:Int) else (Int.gcd t b:Int)
noncomputable def fx (t b:Int):Int:=t.fdiv (dv t b)
noncomputable def fy (t b:Int):Int:=b.fdiv (dv t b)
theorem ya {t b:Int} (h:b≠0):dv t b≠0:=by
 have:0 < Int.gcd t b:=zl t h
 unfold dv
 split<;>omega
theorem wQ {t b:Int}:(dv t b).natAbs=Int.gcd t b:=by
 unfold dv
 split<;>omega
def oz (x y:Int):Prop:=0 < y∧Int.gcd x y=1
theorem dw {x y:Int} (h:y≠0):∃x' y':Int,x=(Int.gcd x y:Int)*x'∧y=(Int.gcd x y:Int)*y'∧Int.gcd x' y'=1∧x / (Int.gcd x y:Int)=x'∧y / (Int.gcd x y:Int)=y':=by
 have g:0 < Int.gcd x y:=zl x h
 obtain ⟨x',hx⟩:((Int.gcd x y:Nat):Int)∣x:=Int.gcd_dvd_left ..
 obtain ⟨y',hy⟩:((Int.gcd x y:Nat):Int)∣y:=Int.gcd_dvd_right ..
 have n:((Int.gcd x y:Nat):Int)≠0:=by omega
 refine ⟨x',y',hx,hy,?_,?_,?_⟩
 · have e:Int.gcd x y=Int.gcd x y*Int.gcd x' y':=by
    have:Int.gcd x y=Int.gcd ((Int.gcd x y:Int)*x') ((Int.gcd x y:Int)*y'):=by rw [←hx,←hy]
    rw [Int.gcd_mul_left,Int.natAbs_natCast] at this
    exact this
   have:=Nat.eq_of_mul_eq_mul_left g (show Int.gcd x y*1=Int.gcd x y*Int.gcd x' y' by rw [←e,Nat.mul_one])
   exact this.symm
 · generalize ((Int.gcd x y:Nat):Int)=k at*
   rw [hx]
   exact Int.mul_ediv_cancel_left _ n
 · generalize ((Int.gcd x y:Nat):Int)=k at*
   rw [hy]
   exact Int.mul_ediv_cancel_left _ n
theorem eC {k x:Int} (hk:0≤k) (h:0 < k*x):0 < x:=by
 by_cases q:0 < x
 · exact q
 · have:=Int.mul_nonpos_of_nonneg_of_nonpos hk (show x≤0 by omega)
   omega
noncomputable def pT (a b c d:Int):Int:=a*(d / (Int.gcd b d:Int))+c*(b / (Int.gcd b d:Int))
theorem ux (a b:Int):(a / b).natAbs≤a.natAbs:=Int.natAbs_ediv_le_natAbs a b
end Mth
namespace L2
section
open PySem
variable {prog:Program} {w:World} {A:Around} {R:Result→Shared→Prop} {s:Shared}
theorem mI {elt target iter:Expr} {ifs:List Expr} {scope:Scope} {pos:Pos} {it acc:Value} {env:Env} (I:Nat→Shared→Prop)
 (turn:∀n s,I n s→wpAny (model prog w) A (pyNext it) (fun r s₁=>match r with
  |none=>R (.ok .next) s₁
  |some v=>wpAny (model prog w) A (letOwnedTupleGo target it v) (fun _ s₁'=>wpAny (model prog w) A (assign target env v) (fun _ s₂=>
   wpAny (model prog w) A (forIn ifs true fun c r=>if r=true then do let ok←isTrue c env (eval c env);pure (ForInStep.yield ok) else pure (ForInStep.yield r)) (fun ok s₃=>
    if ok=true then wpAny (model prog w) A (eval elt env) (fun x s₄=>
     wpAny (model prog w) A (call (.builtin "list.append") [acc,x]) (fun _ s₅=>∃m,m < n∧I m s₅) (fun _ _=>False) s₄) (fun _ _=>False) s₃
    else∃m,m < n∧I m s₃) (fun _ _=>False) s₂) (fun _ _=>False) s₁') (fun _ _=>False) s₁) (fun _ _=>False) s)
 (n:Nat) (h:I n s):codeAny (model prog w) A (.compLoop (.ListComp elt [⟨target,iter,ifs,0⟩] scope pos) 0 it acc env) R s:=by
 refine codeAny_loop rfl I (fun n s hI=> ?_) n h
 show wpAny _ A ((compTurn (.ListComp elt [⟨target,iter,ifs,0⟩] scope pos) 0 it acc env).onRaise (fun x=>do noteFrame x env;theTreesLotGoes x)) _ _ s
 refine wpAny_noted ?_
 rw [compTurn_list]
 refine wpAny_bind (wpAny_standAt (wpAny_bind (wpAny_mono (turn n s hI) (fun r s₁ h₁=> ?_) fun _ _ z=>z.elim)))
 cases r with
 |none=>exact wpAny_pure h₁
 |some v=>
  refine wpAny_bind (wpAny_mono h₁ (fun _ s₁' h₁'=> ?_) fun _ _ z=>z.elim)
  refine wpAny_bind (wpAny_mono h₁' (fun _ s₂ h₂=>wpAny_bind (wpAny_mono h₂ (fun ok s₃ h₃=> ?_) fun _ _ z=>z.elim)) fun _ _ z=>z.elim)
  cases ok with
  |false=>exact wpAny_pure ⟨rfl,h₃⟩
  |true=>
   exact wpAny_bind (wpAny_bind (wpAny_mono h₃ (fun x s₄ h₄=>wpAny_bind (wpAny_mono h₄ (fun _ s₅ h₅=>wpAny_pure (wpAny_pure ⟨rfl,h₅⟩)) fun _ _ z=>z.elim)) fun _ _ z=>z.elim))
noncomputable def cD (names:List (Str×NameKind)) (cells:List (Str×Addr)):List (Str×Addr)→List (Str×Addr):=match names with
 | []=>fun cs=>cs
 |(n,k)::r=>fun cs=>cD r cells (if (k== .free)=true then (n,(cells.lookup n).getD 0)::cs else cs)
noncomputable def cq (names:List (Str×NameKind)) (cells:List (Str×Addr)):Bool:=names.all fun y=> !(y.2== .free) ||(cells.lookup y.1).isSome
theorem jE (env:Env):∀(names:List (Str×NameKind)) (cs:List (Str×Addr)),cq names env.cells=true→
 (forIn names cs fun (x:Str×NameKind) (r:List (Str×Addr))=>match x with
  |(name,kind)=>if (kind==NameKind.free)=true then do let __do_lift←cellOf env name;pure (ForInStep.yield ((name,__do_lift)::r)) else pure (ForInStep.yield r):Sem (List (Str×Addr)))=pure (cD names env.cells cs)
 | [],cs,_=>rfl
 |(n,k)::r,cs,h=>by
  unfold cq at h
  rw [List.all_cons,yH] at h
  rw [List.forIn_cons]
  unfold cD
  by_cases hk:(k==NameKind.free)=true
  · rw [if_pos hk]
    dsimp only
    rw [if_pos hk]
    have h1:(env.cells.lookup n).isSome=true:=by
     have:=h.1
     rw [hk] at this
     simpa using this
    obtain ⟨c,hc⟩:=Option.isSome_iff_exists.mp h1
    have e:cellOf env n=pure c:=by unfold cellOf;rw [hc]
    rw [e,hc]
    exact jE env r _ h.2
  · rw [if_neg hk]
    dsimp only
    rw [if_neg hk]
    exact jE env r _ h.2
theorem uz {scope:Scope} {env:Env} (h:cq scope.names env.cells=true):closureFor scope env=pure (cD scope.names env.cells []):=by
 unfold closureFor
 have:=jE env scope.names [] h
 simp only [bind_pure]
 exact this
theorem lq {cells:List (Str×Addr)}:∀(names:List (Str×NameKind)) (cs:List (Str×Addr)),cq names cells=true→(∀y c,cs.lookup y=some c→cells.lookup y=some c)→∀y c,(cD names cells cs).lookup y=some c→cells.lookup y=some c
 | [],cs,_,hc,y,c,e=>hc y c e
 |(n,k)::r,cs,h,hc,y,c,e=>by
  unfold cq at h
  rw [List.all_cons,yH] at h
  refine lq r _ h.2 (fun z d q=> ?_) y c e
  by_cases hk:(k==NameKind.free)=true
  · rw [if_pos hk,z6] at q
    cases zn:(z==n) with
    |true=>
     rw [zn] at q
     have h1:(cells.lookup n).isSome=true:=by
      have:=h.1
      rw [hk] at this
      simpa using this
     obtain ⟨c',hc'⟩:=Option.isSome_iff_exists.mp h1
     have zn':z=n:=by simpa using zn
     rw [zn',hc']
     have q':some ((cells.lookup n).getD 0)=some d:=q
     rw [hc'] at q'
     exact q'
    |false=>
     rw [zn] at q
     exact hc z d q
  · rw [if_neg hk] at q
    exact hc z d q
theorem iR {cells:List (Str×Addr)}:∀(names:List (Str×NameKind)) (cs:List (Str×Addr)) (y:Str),(∃c,cs.lookup y=some c)→∃c,(cD names cells cs).lookup y=some c
 | [],cs,y,h=>h
 |(n,k)::r,cs,y,h=>by
  refine iR r _ y ?_
  by_cases hk:(k==NameKind.free)=true
  · rw [if_pos hk,z6]
    cases zn:(y==n) with
    |true=>exact ⟨_,rfl⟩
    |false=>exact h
  · rw [if_neg hk]
    exact h
theorem ig {cells:List (Str×Addr)}:∀(names:List (Str×NameKind)) (cs:List (Str×Addr)) (y:Str),(y,NameKind.free)∈names→∃c,(cD names cells cs).lookup y=some c
 | [],_,y,h=>by cases h
 |(n,k)::r,cs,y,h=>by
  rcases yk.mp h with e|h
  · obtain ⟨e1,e2⟩:=Prod.mk.inj e
    subst e1
    subst e2
    unfold cD
    refine iR r _ y ?_
    rw [if_pos (show (NameKind.free==NameKind.free)=true from rfl),z6]
    have:(y==y)=true:=by simp
    rw [this]
    exact ⟨_,rfl⟩
  · exact ig r _ y h
end
open PySem PySem.Spec PyProof.Rows
noncomputable abbrev XC (X:Cx) (scope:Scope) (NC:List Str) (C:Addr) (s:Shared) (H:Hp) (fp:List Addr) (pn:List (Addr×Obj)):Cx:=
 {X with N:=NC,s₀:=s,H₀:=H,env:=compEnvC scope (cD scope.names X.env.cells []) C X.env,outer:=X.stack,stack:=X.stack,ex:=fp,fn:=fun _=>false,pn:=pn,xe:=fun _ _=>False}
noncomputable def subS (mp:List (Option Nat)) (σ:St):St:=mp.map fun o=>match o with
 |some i=>(σ[i]?).getD none
 |none=>none
noncomputable def nE (N NC:List Str) (mp:List (Option Nat)) (names outer:List (Str×NameKind)):Bool:=(List.range mp.length).all fun j=>match mp[j]? with
 |some (some i)=>(match NC[j]?,N[i]? with
  |some y,some z=>y==z&&names.lookup y==some NameKind.free&& (outer.lookup y==some NameKind.cell ||outer.lookup y==some NameKind.free)
  |_,_=>false)
 |_=>true
theorem qV {N NC:List Str} {mp:List (Option Nat)} {names outer:List (Str×NameKind)} (h:nE N NC mp names outer=true) {j i:Nat} (e:mp[j]?=some (some i)):∃y,NC[j]?=some y∧N[i]?=some y∧names.lookup y=some .free∧(outer.lookup y=some .cell∨outer.lookup y=some .free):=by
 unfold nE at h
 rw [z5] at h
 have hj:j < mp.length:=(yF.mp e).1
 have:=h j (yY.mpr hj)
 rw [e] at this
 dsimp only at this
 split at this
 · rename_i y z e1 e2
   simp only [yH,Bool.or_eq_true,beq_iff_eq] at this
   obtain ⟨⟨rfl,h2⟩,h3⟩:=this
   exact ⟨y,e1,e2,h2,h3⟩
 · cases this
def PTs (X:Cx) (ifs:List Expr) (t:TT):Prop:=
 ∀(pins:List (Addr×Obj)) (s:Shared) (σ:St) (H:Hp) (Q:Bool→Hp→Prop),Inv X pins σ H s→t σ H Q→
  wpAny (model X.prog X.w) X.A (forIn ifs true fun c r=>if r=true then do let ok←isTrue c X.env (eval c X.env);pure (ForInStep.yield ok) else pure (ForInStep.yield r)) (TP X pins σ Q) X.xe s
def eJ:TT:=fun _ H Q=>Q true H
theorem cu {X:Cx}:PTs X [] eJ:=fun _ _ σ H Q I h=>wpAny_tests_nil ⟨H,I,h⟩
theorem eO {X:Cx} {c:Expr} {t:TT} (hc:PT X c t):PTs X [c] t:=fun pins s σ H Q I h=>wpAny_tests_one (hc pins s σ H Q I h)
def Ext (σ σ':St):Prop:=∀(j:Nat) (v:V),σ[j]?=some (some v)→σ'[j]?=some (some v)
theorem Ext.refl (σ:St):Ext σ σ:=fun _ _ e=>e
theorem ext1 {o:Option V} {r:St}:Ext (none::r) (o::r)
 |0,v,e=>by cases (yP (show some (none:Option V)=some (some v) from e))
 |j+1,v,e=>e
theorem ext2 {o p:Option V} {r:St}:Ext (none::none::r) (o::p::r)
 |0,v,e=>by cases (yP (show some (none:Option V)=some (some v) from e))
 |1,v,e=>by cases (yP (show some (none:Option V)=some (some v) from e))
 |j+2,v,e=>e
def iy (mp:List (Option Nat)) (wi:TI) (g:TG) (tc:TT) (te:TE):TE:=fun σ H Q=>wi σ H fun J H1=>∀D,H1 D=none→
 ∃W:Nat→Nat→List V→Hp→Prop,(∃m,W 0 m [] (upd H1 D (.lst [])))∧∀i m acc H2,W i m acc H2→
  (J.stop i H2∧Q (.ref D) H2)∨
  (J.go i H2∧∀x H3,J.yld i H2 x H3→g x (subS mp σ) H3 fun σ4 H4=>Ext (subS mp σ) σ4∧tc σ4 H4 fun b H5=>if b=true then te σ4 H5 fun v H6=>H6 D=some (.lst acc)∧acc.length < sizeLine∧∃m',m' < m∧W (i+1) m' (acc++ [v]) (upd H6 D (.lst (acc++ [v])))
   else∃m',m' < m∧W (i+1) m' acc H5)
open PySem PySem.Spec PyProof.Rows
theorem cg {env:Env}:∀ {names:List (Str×NameKind)} {x:Str},names.lookup x=some .free→
 (names.map fun (n,k)=>if (k==NameKind.free&&env.scope.kind== .function&&env.kindOf n==some .cell) then (n,NameKind.cell) else (n,k)).lookup x=some .cell∨
 (names.map fun (n,k)=>if (k==NameKind.free&&env.scope.kind== .function&&env.kindOf n==some .cell) then (n,NameKind.cell) else (n,k)).lookup x=some .free
 | [],_,h=>by simp at h
 |(n,k)::r,x,h=>by
  have ih:= @cg env r x
  show List.lookup x ((if (k==NameKind.free&&env.scope.kind== .function&&env.kindOf n==some .cell)=true then (n,NameKind.cell) else (n,k))::_)=_∨List.lookup x ((if (k==NameKind.free&&env.scope.kind== .function&&env.kindOf n==some .cell)=true then (n,NameKind.cell) else (n,k))::_)=_
  cases hx:x==n with
  |true=>
   simp only [z6,hx] at h
   cases h
   by_cases hc:(NameKind.free==NameKind.free&&env.scope.kind== .function&&env.kindOf n==some .cell)=true
   · rw [if_pos hc]
     left
     simp only [z6,hx]
   · rw [if_neg hc]
     right
     simp only [z6,hx]
  |false=>
   simp only [z6,hx] at h
   by_cases hc:(k==NameKind.free&&env.scope.kind== .function&&env.kindOf n==some .cell)=true
   · rw [if_pos hc]
     simp only [z6,hx]
     exact ih h
   · rw [if_neg hc]
     simp only [z6,hx]
     exact ih h
theorem fQ {env:Env}:∀ {names:List (Str×NameKind)} {x:Str},(∀y∈names,y.2≠ .cell)→
 ((names.map fun (n,k)=>if (k==NameKind.free&&env.scope.kind== .function&&env.kindOf n==some .cell) then (n,NameKind.cell) else (n,k)).lookup x=some .cell∨
 (names.map fun (n,k)=>if (k==NameKind.free&&env.scope.kind== .function&&env.kindOf n==some .cell) then (n,NameKind.cell) else (n,k)).lookup x=some .free)→(x,NameKind.free)∈names
 | [],_,_,h=>by simp at h
 |(n,k)::r,x,hn,h=>by
  have ih:= @fQ env r x (fun y hy=>hn y (ym _ hy))
  have nk:k≠ .cell:=hn (n,k) yn
  rw [yD] at h
  dsimp only at h
  cases hx:x==n with
  |true=>
   have xn:x=n:=by simpa using hx
   subst xn
   by_cases hc:(k==NameKind.free&&env.scope.kind== .function&&env.kindOf x==some .cell)=true
   · have:k= .free:=by
      have:=hc
      rw [yH,yH] at this
      simpa using this.1.1
     rw [this]
     exact yn
   · rw [if_neg hc,z6,hx] at h
     rcases h with h|h
     · exact absurd (yP h) nk
     · cases (yP h)
       exact yn
  |false=>
   refine ym _ (ih ?_)
   by_cases hc:(k==NameKind.free&&env.scope.kind== .function&&env.kindOf n==some .cell)=true
   · rw [if_pos hc,z6,hx] at h
     exact h
   · rw [if_neg hc,z6,hx] at h
     exact h
section
variable {X:Cx} {pins:List (Addr×Obj)} {σ:St} {H:Hp} {s:Shared}
theorem Inv.block {scope:Scope} {NC:List Str} {mp:List (Option Nat)} {fp:List Addr} {h1:Heap} {tk:Nat} {m:Str→Option Value} (I:Inv X pins σ H s) (hf:∀b∈fp,FpOk X pins H b) (hlt:∀b∈fp,b < s.heap.objs.size) (hk:scope.kind= .function) (hnc:∀y∈scope.names,y.2≠ .cell)
 (hc:cq scope.names X.env.cells=true) (hl:mp.length=NC.length) (hm:nE X.N NC mp scope.names X.env.scope.names=true) (kp:∀b o,s.heap.get? b=some o→h1.get? b=some o) (hn:h1.Ns s.heap.objs.size m):
 Inv (XC X scope NC s.heap.objs.size s H fp (X.pn++pins)) [] (subS mp σ) H {s with heap:=h1,toks:=tk}:=by
 have sub:=lq (cells:=X.env.cells) scope.names [] hc (fun y c e=>by cases e)
 have lt:∀b o,s.heap.get? b=some o→b≠s.heap.objs.size:=fun b o e=>yE (Heap.lt_size e)
 have nst:∀b,b≠X.env.locals→b∉X.fs→b∉frs X.stack:=fun b h1 h2 z=>by
  rcases yk.mp (I.stkSub b z) with e|e
  · exact h1 e
  · exact h2 e
 refine ⟨⟨I.ok.mod,hk,I.ok.glob,I.ok.blt,yl _,fun x y c e1 e2=>I.ok.inj x y c (sub x c e1) (sub y c e2),fun x hx=> ?_,(fun _ _ z=>by cases z),I.ok.hd,I.ok.frames, .inl rfl,fun b hb=> ?_,fun b o e=> ?_,yU I.ok.bsz I.sz,fun b o e hb=> ?_,fun b hb=> ?_,I.stack,I.stkFree⟩,
  rfl,I.bare,Un.kept kp,⟨m,hn,fun j y v e1 e2 e3=> ?_⟩,fun y c e=> ?_,I.hok.fresh (yl _),fun y c e=>I.freeC y c (sub y c e),fun p hp=> ?_,I.hok.kept kp,?_⟩
 · exact ig scope.names [] x (fQ hnc hx)
 · obtain ⟨f0,f1,f2,f3,f4,f5⟩:=hf b hb
   exact ⟨yE (hlt b hb),fun x c e=>f4 x c (sub x c e)⟩
 · obtain ⟨h1,h2⟩:=I.bs b o e
   exact ⟨h1,h2⟩
 · obtain ⟨f0,f1,f2,f3,f4,f5⟩:=hf b hb
   rcases f3 with z|z
   · exact I.ok.noex b o e z
   · exact absurd (yB (Heap.lt_size e) (yU I.ok.bsz z)) (Nat.lt_irrefl _)
 · obtain ⟨f0,f1,f2,f3,f4,f5⟩:=hf b hb
   exact nst b f1 f2
 ·
  unfold subS at e2
  rw [yL] at e2
  cases q:mp[j]? with
  |none=>rw [q] at e2;cases e2
  |some o=>
   rw [q] at e2
   cases o with
   |none=>cases e2
   |some i=>
    have e2':some ((σ[i]?).getD none)=some (some v):=e2
    obtain ⟨z,y1,y2,y3,y4⟩:=qV hm q
    have yz:y=z:=yP ((show NC[j]?=some y from e1).symm.trans y1)
    subst yz
    have e4:σ[i]?=some (some v):=by
     cases w:σ[i]? with
     |none=>rw [w] at e2';cases e2'
     |some t=>rw [w] at e2';exact e2'
    obtain ⟨m0,hn0,hl0⟩:=I.loc
    obtain ⟨c,hcl⟩:=ig (cells:=X.env.cells) scope.names [] y (PySem.mem_of_lookup y3)
    have hcx:=sub y c hcl
    have vis:Vis X.env.scope y:= .inr y4
    obtain ⟨u,ru,lk⟩:=hl0 i y v y2 e4 vis
    refine ⟨u,ru, .inr ⟨cg y3,c,hcl,?_⟩⟩
    rcases lk with ⟨k1,_⟩|⟨_,c',k2,k3⟩
    · have k1':X.env.scope.names.lookup y=some .local:=k1
      rcases y4 with y4|y4<;>(rw [y4] at k1';cases k1')
    · rw [hcx] at k2
      cases k2
      obtain ⟨oc,q1,q2⟩:=k3
      exact ⟨oc,kp _ _ q1,q2⟩
 · obtain ⟨v,oc,q1,q2⟩:=I.cell y c (sub y c e)
   exact ⟨v,oc,kp _ _ q1,q2⟩
 · have hp':p∈X.pn++pins:=by simpa using hp
   obtain ⟨q1,q2,q3,q4,q5⟩:=I.pin p hp'
   exact ⟨kp _ _ q1,q2,lt _ _ q1,nst _ q3 q4,q5⟩
 · show (subS mp σ).length=NC.length
   unfold subS
   rw [yo,hl]
variable {elt target iter:Expr} {ifs:List Expr} {scope:Scope} {NC:List Str} {mp:List (Option Nat)} {pos:Pos} {wi:TI} {g:TG} {tc:TT} {te:TE}
theorem br (hcalm:X.calm=true) (hi:PI X target iter wi) (hg:∀C s H fp pn,PG (XC X scope NC C s H fp pn) target g) (ht:∀C s H fp pn,PTs (XC X scope NC C s H fp pn) ifs tc) (he:∀C s H fp pn,PE (XC X scope NC C s H fp pn) elt te)
 (hl:mp.length=NC.length:=by rfl) (hm:nE X.N NC mp scope.names X.env.scope.names=true:=by rfl) (hc:cq scope.names X.env.cells=true:=by rfl) (hk:scope.kind= .function:=by rfl)
 (hnc:∀y∈scope.names,y.2≠ .cell:=by decide +kernel) (hnm:∀y∈scope.names,y.2= .local→scope.names.lookup y.1=some .local:=by decide +kernel) (hs:∀x,foldedSetIterable iter X.env x=pure x:=by intro _;rfl):
 PE X (.ListComp elt [⟨target,iter,ifs,0⟩] scope pos) (iy mp wi g tc te):=by
 intro pins s σ H Q I h
 rw [eval_ListComp]
 refine wpAny_comprehension_free (use:=none) rfl hs (uz hc) hk hnm (thn (hi pins s σ H _ I h) fun v s1 h1=>thn h1 fun itv s2 h2=> ?_)
 obtain ⟨it,fp,tn,J,H2,e,I2,T,st2,f2,W⟩:=h2
 subst e
 refine wpAny_newObj_type ?_ (by show 0≤sizeLine;decide)
 have nD:H2 s2.heap.objs.size=none:=I2.hok.fresh (yl _)
 have I3:Inv X pins σ (upd H2 s2.heap.objs.size (.lst [])) {s2 with heap:=s2.heap.push {cls:= .type "list",data:= .seq ([]:List Value).toArray}}:=
  I2.laid (t':=s2.toks) (fun b u e=>Heap.get?_push_of_some _ e) (yl _) ⟨by show 0≤sizeLine;decide,[],0, .nil,Heap.get?_push_size _ rfl⟩
 obtain ⟨W,⟨m0,w0⟩,turn⟩:=W _ nD
 have lt2:∀b∈fp,b < s2.heap.objs.size:=fun b hb=>by
  obtain ⟨o,e,_⟩:=T.obj 0 _ st2 b hb
  exact Heap.lt_size e
 have nDf:∀b∈fp,b≠s2.heap.objs.size:=fun b hb=>yE (lt2 b hb)
 have f3:∀b∈fp,FpOk X pins (upd H2 s2.heap.objs.size (.lst [])) b:=fun b hb=>by
  obtain ⟨g0,g1⟩:=f2 b hb
  exact ⟨by rw [aF (nDf b hb)];exact g0,g1⟩
 have st3:tn 0 (s2.heap.push {cls:= .type "list",data:= .seq ([]:List Value).toArray}):=T.keep 0 _ _ st2 fun b _ o e=>Heap.get?_push_of_some _ e
 have lt3:∀b∈fp,b < (s2.heap.push {cls:= .type "list",data:= .seq ([]:List Value).toArray}).objs.size:=fun b hb=>by
  rw [Heap.size_push]
  exact Nat.lt_succ_of_lt (lt2 b hb)
 generalize hD:s2.heap.objs.size=D at*
 generalize hs3:({s2 with heap:=s2.heap.push {cls:= .type "list",data:= .seq ([]:List Value).toArray}}:Shared)=s3 at*
 have hh3:s3.heap=s2.heap.push {cls:= .type "list",data:= .seq ([]:List Value).toArray}:=by rw [←hs3]
 rw [←hh3] at st3 lt3
 generalize hH3:upd H2 D (.lst [])=H3 at*
 refine wpAny_newFunctionEnv (around:=some X.env) hnc (by intro y hy;cases hy) (fun h4 hn4 hsb4=> ?_) hk
 have kp4:∀b o,s3.heap.get? b=some o→h4.get? b=some o:=fun b o e=>hsb4.extBut b o (yE (Heap.lt_size e)) (Heap.get?_push_of_some _ e)
 have I4:=I3.block (tk:=s3.toks+([]:List (Str×Value)).length) f3 lt3 hk hnc hc hl hm kp4 hn4
 have st4:tn 0 h4:=T.keep 0 _ _ st3 fun b _ o e=>kp4 b o e
 have fin:∀(s5:Shared) (σ5:St) (H5:Hp),Inv (XC X scope NC s3.heap.objs.size s3 H3 fp (X.pn++pins)) [] σ5 H5 s5→Q (.ref D) H5→compPost (model X.prog X.w) X.A X.xe none (EP X pins σ Q) (.ref D) s3.heap.objs.size (.ok .next) s5:=by
  intro s5 σ5 H5 I5 q5
  obtain ⟨m5,hn5,_⟩:=id I5.loc
  refine ⟨m5,hn5,fun h6 sb6=>⟨.ref D,H5,?_,rfl,q5⟩⟩
  have kp6:∀b o,b≠s3.heap.objs.size→s5.heap.get? b=some o→h6.get? b=some o:=fun b o hb e=>sb6.extBut b o hb e
  have nC:∀b o,s3.heap.get? b=some o→b≠s3.heap.objs.size:=fun b o e=>yE (Heap.lt_size e)
  have un:Un (frs X.stack) fp H3 H5 s3.heap s5.heap:=I5.base
  have hfree:H5 s3.heap.objs.size=none:=I5.free
  refine I3.call' (s':= {s5 with heap:=h6}) (ch:=fp) I5.os ⟨fun b o e n hb hx=>kp6 b o (nC b o e) (un.keep b o e n hb hx),fun b o e n hb hx=> ?_,un.free,fun b o e hx=> ?_,un.tups,un.frzs,un.tbls⟩ ?_ I5.bare (fun b hb=> ?_)
  · obtain ⟨sl,e1⟩:=un.slot b o e n hb hx
    exact ⟨sl,kp6 b _ (nC b o e) e1⟩
  · obtain ⟨o',e1⟩:=un.there b o e hx
    exact ⟨o',kp6 b o' (nC b o e) e1⟩
  · intro b o e
    have nb:b≠s3.heap.objs.size:=fun z=>by rw [z,hfree] at e;cases e
    refine (I5.hok b o e).stay (fun c v hc' r=>kp6 c v ?_ r) (fun _ r=>r) fun _ _ r=>r
    rcases hc' with z|z
    · rw [z];exact nb
    · intro y
      rw [y,hfree] at z
      cases z
  · obtain ⟨g0,g1,g2,g3,g4,g5⟩:=f3 b hb
    exact ⟨g3,g1,g4,g5⟩
 have loop:codeAny (model X.prog X.w) X.A (.compLoop (.ListComp elt [⟨target,iter,ifs,0⟩] scope pos) 0 (.ref it) (.ref D) (compEnvC scope (cD scope.names X.env.cells []) s3.heap.objs.size X.env)) (compPost (model X.prog X.w) X.A X.xe none (EP X pins σ Q) (.ref D) s3.heap.objs.size)
  {s3 with heap:=h4,toks:=s3.toks+([]:List (Str×Value)).length}:=by
  refine mI (fun n s'=>∃i acc σ' H',Inv (XC X scope NC s3.heap.objs.size s3 H3 fp (X.pn++pins)) [] σ' H' s'∧Ext (subS mp σ) σ'∧tn i s'.heap∧(∀b∈fp,H' b=none)∧W i n acc H') ?_ m0
   ⟨0,[],subS mp σ,H3,I4,fun _ _ e=>e,st4,fun b hb=>(f3 b hb).1,w0⟩
  rintro n s5 ⟨i,acc,σ5,H5,I5,hσ,st5,fr5,w5⟩
  have I5':Inv (XC X scope NC s3.heap.objs.size s3 H3 fp (X.pn++pins)) [] (subS mp σ) H5 s5:=I5.weak (by rw [I5.len];unfold subS;rw [yo];exact hl) hσ
  have fpk:∀ {H':Hp},(∀b∈fp,H' b=none)→∀b∈fp,FpOk (XC X scope NC s3.heap.objs.size s3 H3 fp (X.pn++pins)) [] H' b:=fun hn b hb=>by
   obtain ⟨g0,g1,g2,g3,g4,g5⟩:=f3 b hb
   refine ⟨hn b hb,yE (lt3 b hb),?_, .inl hb,(I4.ok.exf b hb).2,fun p hp=>g5 p (by simpa using hp)⟩
   exact I4.ok.exfs b hb
  rcases turn i n acc H5 w5 with ⟨stop,q⟩|⟨go,step⟩
  · refine thn (T.done (XC X scope NC s3.heap.objs.size s3 H3 fp (X.pn++pins)) rfl rfl rfl hcalm i [] s5 _ H5 (fun _ _=>False) I5' (fpk fr5) st5 stop) fun r s6 ⟨hr,I6⟩=> ?_
    subst hr
    exact fin s6 _ H5 I6 q
  · refine thn (T.item (XC X scope NC s3.heap.objs.size s3 H3 fp (X.pn++pins)) rfl rfl rfl hcalm i [] s5 _ H5 (fun _ _=>False) I5' (fpk fr5) st5 go) fun r s6 ⟨u,hr,h6⟩=> ?_
    subst hr
    refine thn h6 fun _ s7 ⟨x,H7,I7,r7,y7,st7,fr7⟩=> ?_
    have I7':=I7.pinned (fpk fr7) (T.obj _ _ st7)
    refine thn (hg _ _ _ _ _ _ s7 _ H7 x u _ I7' r7 (step x H7 y7)) fun _ s8 ⟨σ8,H8,I8,ext8,q8⟩=> ?_
    refine thn (ht _ _ _ _ _ _ s8 σ8 H8 _ I8 q8) fun ok s9 ⟨H9,I9,q9⟩=> ?_
    have again:∀ {σ':St} {H':Hp} {s':Shared} {acc':List V} {m':Nat},Inv (XC X scope NC s3.heap.objs.size s3 H3 fp (X.pn++pins)) ([]++gZ fp s7.heap) σ' H' s'→Ext (subS mp σ) σ'→m' < n→W (i+1) m' acc' H'→
     ∃m,m < n∧∃i acc σ' H',Inv (XC X scope NC s3.heap.objs.size s3 H3 fp (X.pn++pins)) [] σ' H' s'∧Ext (subS mp σ) σ'∧tn i s'.heap∧(∀b∈fp,H' b=none)∧W i m acc H':=by
     intro σ' H' s' acc' m' I' hσ' hm' w'
     refine ⟨m',hm',i+1,acc',σ',H',I'.unpinned,hσ',T.keep _ _ _ st7 fun b hb o e=>(I'.pin (b,o) (yX _ (yX _ (cX hb e)))).1,fun b hb=> ?_,w'⟩
     obtain ⟨o,e,d⟩:=T.obj _ _ st7 b hb
     exact (I'.pin (b,o) (yX _ (yX _ (cX hb e)))).2.1
    cases ok with
    |false=>
     rw [if_neg yI] at q9
     rw [if_neg yI]
     obtain ⟨m',hm',w'⟩:=q9
     exact again I9 ext8 hm' w'
    |true=>
     rw [if_pos rfl] at q9
     rw [if_pos rfl]
     refine thn (he _ _ _ _ _ _ s9 σ8 H9 _ I9 q9) fun v s10 ⟨y,H10,I10,r10,hD10,hz,m',hm',w'⟩=> ?_
     refine thn (dB (X:=XC X scope NC s3.heap.objs.size s3 H3 fp (X.pn++pins)) _ s10 σ8 H10 (.ref D) [y] (.ref D) [v] (fun _ H'=>H'=upd H10 D (.lst (acc++ [y]))) I10 rfl (.cons r10 .nil) ⟨D,acc,y,rfl,rfl,hD10,hz,rfl⟩) fun _ s11 ⟨_,H11,I11,_,e11⟩=> ?_
     subst e11
     exact again I11 ext8 hm' w'
 exact codeAny_compStart_list loop (T.self _ 0 _ _ _ st4 loop)
end
open PySem PySem.Spec PyProof.Rows
section
variable {X:Cx} {pins:List (Addr×Obj)} {σ:St} {H:Hp} {s:Shared}
variable {elt target iter:Expr} {ifs:List Expr} {scope:Scope} {NC:List Str} {mp:List (Option Nat)} {pos spos:Pos} {wi:TI} {g:TG} {tc:TT} {te:TE} {i:Nat} {x:Str} {px:Pos}
end
open PySem PySem.Spec PyProof.Rows
section
variable {κ:Type} [DecidableEq κ]
noncomputable def valV (kvs:List (κ×V)) (k:κ):Option V:=(kvs.find? fun kv=>decide (kv.1=k)).map (·.2)
noncomputable def putK (kvs:List (κ×V)) (k:κ) (v:V):List (κ×V):=
 if (kvs.any fun kv=>decide (kv.1=k))=true then kvs.map (fun kv=>if kv.1=k then (kv.1,v) else kv) else kvs++ [(k,v)]
theorem kG (kvs:List (κ×V)) (k:κ) (v:V):(putK kvs k v).length≤kvs.length+1:=by
 unfold putK
 split
 · rw [yo];omega
 · rw [yt,yC,zm];omega
theorem RelO.isSome_eq {o:Option V} {u:Option Value} (r:RelO o u):o.isSome=u.isSome:=by
 cases o with
 |none=>cases u with
  |none=>rfl
  |some _=>exact (show False from r).elim
 |some _=>cases u with
  |none=>exact (show False from r).elim
  |some _=>rfl
theorem RelO.getD {o:Option V} {u:Option Value} {d:V} {d':Value} (r:RelO o u) (rd:RelV d d'):RelV (o.getD d) (u.getD d'):=by
 cases o with
 |none=>cases u with
  |none=>exact rd
  |some _=>exact (show False from r).elim
 |some _=>cases u with
  |none=>exact (show False from r).elim
  |some _=>exact r
theorem KV.any {kvs:List (κ×V)} {vs:List (κ×Value)} (r:KV kvs vs) (k:κ):(kvs.any fun kv=>decide (kv.1=k))=vs.any fun kv=>decide (kv.1=k):=by
 unfold KV at r
 induction r with
 |nil=>rfl
 |cons h t ih=>rw [List.any_cons,List.any_cons,ih,h.1]
theorem KV.repl {kvs:List (κ×V)} {vs:List (κ×Value)} (r:KV kvs vs) (k:κ) {y:V} {u:Value} (ry:RelV y u):
 KV (kvs.map fun kv=>if kv.1=k then (kv.1,y) else kv) (vs.map fun kv=>if kv.1=k then (kv.1,u) else kv):=by
 unfold KV at r ⊢
 induction r with
 |nil=>exact .nil
 | @cons p q ps qs h t ih=>
  rw [yD,yD]
  refine .cons ?_ ih
  obtain ⟨h1,h2⟩:=h
  by_cases e:p.1=k
  · rw [if_pos e,if_pos (h1.symm.trans e)];exact ⟨h1,ry⟩
  · rw [if_neg e,if_neg (fun z=>e (h1.trans z))];exact ⟨h1,h2⟩
theorem KV.put {kvs:List (κ×V)} {vs:List (κ×Value)} (r:KV kvs vs) (k:κ) {y:V} {u:Value} (ry:RelV y u):KV (putK kvs k y) (stored vs k u):=by
 unfold putK stored
 rw [r.any k]
 by_cases e:(vs.any fun kv=>decide (kv.1=k))=true
 · rw [if_pos e,if_pos e];exact r.repl k ry
 · rw [if_neg e,if_neg e];exact Paired.snoc r ⟨rfl,ry⟩
theorem KV.length {kvs:List (κ×V)} {vs:List (κ×Value)} (r:KV kvs vs):kvs.length=vs.length:=Paired.length r
end
theorem xS {P:Program} {w:World} {k:Key} {u:Value} (r:RelV (kV k) u):(b8 P w).is k u=true:=by
 cases k with
 |inl i=>obtain ⟨t,e⟩:=(show∃t,u=Value.int i t from r);subst e;exact kq P w i t
 |inr x=>obtain ⟨t,e⟩:=(show∃t,u=Value.str x t from r);subst e;exact ko P w x t
abbrev KT (H:Hp):List (List Key×V)→List (List Key×Addr×Value)→Prop:=Paired fun p q=>p.1=q.1∧H q.2.1=some (.tup (p.1.map kV))∧RelV p.2 q.2.2
theorem KT.keeps {H H':Hp} {kvs:List (List Key×V)} {xs:List (List Key×Addr×Value)} (r:KT H kvs xs) (ht:∀b ys,H b=some (.tup ys)→H' b=some (.tup ys)):KT H' kvs xs:=
 Paired.mapP r fun _ _ z=>⟨z.1,ht _ _ z.2.1,z.2.2⟩
section
variable {P:Program} {w:World} {H:Hp} {h:Heap} {a:Addr}
theorem xj {u:HO} (ok:HOk P w H h) (e:Rd H a u):ObjOk P w H h a u:=e.ok ok
theorem yb {kvs:List (Key×V)} (ok:HOk P w H h) (e:Rd H a (.dK kvs)):kvs.length≤sizeLine∧(a==sysModules)=false∧∃vs,KV kvs vs∧h.DictOf (b8 P w) a vs:=
 show ObjOk P w H h a (.dK kvs) from xj ok e
theorem yc {kvs:List (Key×V)} (ok:HOk P w H h) (e:H a=some (.dK kvs)):kvs.length≤sizeLine∧(a==sysModules)=false∧∃vs,KV kvs vs∧h.DictOf (b8 P w) a vs:=yb ok (.inl e)
end
def DGet (H:Hp) (a:Addr) (y:V) (r:Option V):Prop:=
 (∃kvs k,Rd H a (.dK kvs)∧y=kV k∧r=valV kvs k)∨∃kvs k b,Rd H a (.dT kvs)∧y= .ref b∧H b=some (.tup (k.map kV))∧r=valV kvs k
def DPut (H:Hp) (a:Addr) (y v:V) (H':Hp):Prop:=
 (∃kvs k,H a=some (.dK kvs)∧y=kV k∧kvs.length < sizeLine∧H'=upd H a (.dK (putK kvs k v)))∨
 ∃kvs k b,H a=some (.dT kvs)∧y= .ref b∧H b=some (.tup (k.map kV))∧kvs.length < sizeLine∧H'=upd H a (.dT (putK kvs k v))
theorem DGet.k {H:Hp} {a:Addr} {kvs:List (Key×V)} {k:Key} (e:H a=some (.dK kvs)):DGet H a (kV k) (valV kvs k):= .inl ⟨kvs,k, .inl e,rfl,rfl⟩
theorem DGet.t {H:Hp} {a b:Addr} {kvs:List (List Key×V)} {k:List Key} (e:H a=some (.dT kvs)) (eb:H b=some (.tup (k.map kV))):DGet H a (.ref b) (valV kvs k):= .inr ⟨kvs,k,b, .inl e,rfl,eb,rfl⟩
theorem DPut.k {H:Hp} {a:Addr} {kvs:List (Key×V)} {k:Key} {v:V} (e:H a=some (.dK kvs)) (hl:kvs.length < sizeLine):DPut H a (kV k) v (upd H a (.dK (putK kvs k v))):= .inl ⟨kvs,k,e,rfl,hl,rfl⟩
theorem DPut.t {H:Hp} {a b:Addr} {kvs:List (List Key×V)} {k:List Key} {v:V} (e:H a=some (.dT kvs)) (eb:H b=some (.tup (k.map kV))) (hl:kvs.length < sizeLine):
 DPut H a (.ref b) v (upd H a (.dT (putK kvs k v))):= .inr ⟨kvs,k,b,e,rfl,eb,hl,rfl⟩
section
variable {X:Cx} {pins:List (Addr×Obj)} {σ:St} {H:Hp} {s:Shared} {a:Addr} {y v:V} {u r:Value} {o:Option V} {A:Around} {E:Value→Shared→Prop}
theorem Inv.big (I:Inv X pins σ H s):sysModules < s.heap.objs.size:=by
 have h:mainGlobals < s.heap.objs.size:=(I.mod.glob.keeps I.bk).lt
 exact Nat.lt_trans (by decide) h
theorem or {h':Heap} {t':Nat} {ob:HO} (I:Inv X pins σ H s) (mu:Mut (H a)) (hs:Heap.SameBut a s.heap h') (he:∃q,h'.get? a=some q) (new:ObjOk X.prog X.w (upd H a ob) h' a ob):
 Inv X pins σ (upd H a ob) {s with heap:=h',toks:=t'}:=
 I.write (x:=a) (e:=a) mu (.inl rfl) (fun b q hb z=>(hs.2 b hb).trans z) he new
theorem wR {P:Program} {w:World} {H':Hp} {h':Heap} {kvs:List (Key×V)} {vs:List (Key×Value)} (z:kvs.length≤sizeLine) (hd:(a==sysModules)=false) (rel:KV kvs vs) (dd:h'.DictOf (b8 P w) a vs):
 ObjOk P w H' h' a (.dK kvs):=⟨z,hd,vs,rel,dd⟩
end
section
variable {X:Cx} {pins:List (Addr×Obj)} {σ:St} {H:Hp} {s:Shared} {a:Addr} {kvs:List (Key×V)} {k:Key} {u:Value} {A:Around} {E:Value→Shared→Prop}
end
def NoSl (i:Expr):Prop:=∀ov iv,subscripted i false ov iv=operate [ov,iv] (getItem ov iv)
theorem t9 {prog:Program} {w:World} {A:Around} {E:Value→Shared→Prop} {s:Shared} {env:Env} {value slice:Expr} {pos:Pos} {T id:String} {Q:Value→Shared→Prop}
 (hl:typeLookup (.type T) "__getitem__"=pure (some (.builtin id))) (hs:NoSl slice)
 (h:wpAny (model prog w) A (eval value env) (fun o s₁=>wpAny (model prog w) A (eval slice env) (fun i s₂=>s₂.TypeIs o T∧wpAny (model prog w) A (getItem o i) Q E s₂) E s₁) E s):
 wpAny (model prog w) A (eval (.Subscript value slice pos) env) Q E s:=by
 refine Subscript_ (wpAny_mono h (fun o s₁ h₁=>wpAny_mono h₁ (fun i s₂ h₂=> ?_) fun _ _ x=>x) fun _ _ x=>x)
 obtain ⟨hT,h₂⟩:=h₂
 unfold subscriptTail
 refine wpAny_bind ?_
 rw [getitemInPython_of_ne hT.not_modules]
 refine wpAny_bind (wpAny_specialOf hT hl ?_)
 have fin:wpAny (model prog w) A (subscripted slice false o i) (fun r s₃=>wpAny (model prog w) A (letTemporaryGo value o r >>=fun _=>pure r) Q E s₃) E s₂:=by
  rw [hs o i]
  exact wpAny_operating (wpAny_mono h₂ (fun r s₃ h₃=>wpAny_bind (wpAny_letTemporaryGo (wpAny_pure h₃))) fun _ _ x=>x)
 first
  |exact wpAny_pure (wpAny_bind fin)
  |exact wpAny_bind (wpAny_pure (wpAny_bind fin))
  |exact wpAny_bind fin
section
variable {X:Cx} {o i e value:Expr} {pos pos' tpos:Pos} {td ty tv:TE}
end
theorem lg {P:Program} {w:World} {H:Hp} (h:Heap) (hb:sysModules < h.objs.size):ObjOk P w H (h.push {cls:= .type "dict",data:= .dict #[]}) h.objs.size (.dK []):=
 ⟨yO _,beq_eq_false_iff_ne.mpr (Ne.symm (yE hb)),[], .nil,Heap.DictOf.new h⟩
def vB:TE:=fun _ H Q=>∀p,H p=none→Q (.ref p) (upd H p (.dK []))
section
variable {X:Cx} {pos:Pos}
theorem qM:PE X (.Dict [] [] pos) vB:=fun pins s σ H Q I h=>
 wpAny_Dict_empty ⟨.ref s.heap.objs.size,_,I.laid (a:=s.heap.objs.size) (o:= .dK []) (t':=s.toks) (fun _ _ q=>Heap.get?_push_of_some _ q) (yl _) (lg s.heap I.big),rfl,h _ (I.hok.fresh (yl _))⟩
end
def lM:List (TE×TE)→St→Hp→(List (V×V)→Hp→Prop)→Prop
 | [],_,H,Q=>Q [] H
 |(tk,tv)::r,σ,H,Q=>tk σ H fun x H1=>tv σ H1 fun y H2=>lM r σ H2 fun ps H3=>Q ((x,y)::ps) H3
abbrev VV:List (V×V)→List (Value×Value)→Prop:=Paired fun p q=>RelV p.1 q.1∧RelV p.2 q.2
def PPs (X:Cx) (pos:Pos) (keys:List (Option Expr)) (values:List Expr) (trs:List (TE×TE)):Prop:=
 ∀(pins:List (Addr×Obj)) (s:Shared) (σ:St) (H:Hp) (Q:List (V×V)→Hp→Prop),Inv X pins σ H s→lM trs σ H Q→
  wpAny (model X.prog X.w) X.A (evalPairs (pairTrees keys values X.env pos)) (fun vs s'=>∃ps H',Inv X pins σ H' s'∧VV ps vs∧Q ps H') X.xe s
theorem tI {X:Cx} {pos:Pos}:PPs X pos [] [] []:=fun pins s σ H Q I h=>pairTrees_nil_walk ⟨[],H,I, .nil,h⟩
theorem qD {X:Cx} {pos:Pos} {k v:Expr} {ks:List (Option Expr)} {vs:List Expr} {tk tv:TE} {trs:List (TE×TE)} (hk:PE X k tk) (hv:PE X v tv) (hr:PPs X pos ks vs trs):
 PPs X pos (some k::ks) (v::vs) ((tk,tv)::trs):=fun pins s σ H Q I h=>
 pairTrees_cons_walk (thn (hk pins s σ H _ I h) fun u s1 ⟨x,H1,I1,rx,q1⟩=>thn (hv pins s1 σ H1 _ I1 q1) fun w2 s2 ⟨y,H2,I2,ry,q2⟩=>
  thn (hr pins s2 σ H2 _ I2 q2) fun ws s3 ⟨ps,H3,I3,rel,q3⟩=>⟨(x,y)::ps,H3,I3, .cons ⟨rx,ry⟩ rel,q3⟩)
noncomputable def hU (kvs more:List (Key×V)):List (Key×V):=more.foldl (fun acc kv=>putK acc kv.1 kv.2) kvs
theorem KV.merge:∀ {more:List (Key×V)} {rs:List (Key×Value)} {kvs:List (Key×V)} {vs:List (Key×Value)},KV more rs→KV kvs vs→KV (hU kvs more) (merged vs rs):=by
 intro more rs kvs vs r
 unfold KV at r
 induction r generalizing kvs vs with
 |nil=>intro q;exact q
 | @cons p q ps qs h t ih=>
  intro r0
  have e:KV (putK kvs p.1 p.2) (stored vs q.1 q.2):=by
   have:=r0.put p.1 h.2
   rw [←h.1];exact this
  exact ih e
theorem dU:∀(more kvs:List (Key×V)),(hU kvs more).length≤kvs.length+more.length
 | [],kvs=>by show kvs.length≤kvs.length+0;omega
 |p::r,kvs=>by
  have h1:=dU r (putK kvs p.1 p.2)
  have h2:=kG kvs p.1 p.2
  show (hU (putK kvs p.1 p.2) r).length≤_
  rw [yC];omega
theorem ii {P:Program} {w:World}:∀ {kvs:List (Key×V)} {ws:List (Value×Value)},VV (kvs.map fun kv=>(kV kv.1,kv.2)) ws→∃rs,Carries (b8 P w) ws rs∧KV kvs rs
 | [],_,r=>by rw [List.map_nil] at r;cases r;exact ⟨[],True.intro, .nil⟩
 |p::kvs,_,r=>by
  rw [yD] at r
  cases r with
  | @cons a b as bs h t=>
   obtain ⟨rs,c,q⟩:=ii (P:=P) (w:=w) t
   obtain ⟨b1,b2⟩:=b
   exact ⟨(p.1,b2)::rs,⟨xS h.1,rfl,c⟩, .cons ⟨rfl,h.2⟩ q⟩
def xb (trs:List (TE×TE)):TE:=fun σ H Q=>∀p,H p=none→lM trs σ (upd H p (.dK [])) fun ps H2=>H2 p=some (.dK [])∧∃kvs:List (Key×V),ps=kvs.map (fun kv=>(kV kv.1,kv.2))∧kvs.length≤15∧Q (.ref p) (upd H2 p (.dK (hU [] kvs)))
theorem tO {X:Cx} {pos:Pos} {keys:List (Option Expr)} {values:List Expr} {trs:List (TE×TE)} (h:PPs X pos keys values trs) (hall:keys.all (·.isSome)=true) (hl:keys.length=values.length) (h0:keys≠ [])
 (h15:keys.length≤15):PE X (.Dict keys values pos) (xb trs):=by
 intro pins s σ H Q I q
 have hn:=I.hok.fresh (yl s.heap.objs.size)
 have I1:=I.laid (a:=s.heap.objs.size) (o:= .dK []) (h':=s.heap.push {cls:= .type "dict",data:= .dict #[]}) (t':=s.toks) (fun _ _ q=>Heap.get?_push_of_some _ q) (yl _) (lg s.heap I.big)
 refine wpAny_Dict_walk (knd:=b8 X.prog X.w) hall hl h0 h15 (thn (h pins _ σ _ _ I1 (q _ hn)) fun ws s2 ⟨ps,H2,I2,rel,e,kvs,ep,lk,q2⟩=> ?_)
 subst ep
 obtain ⟨rs,c,rk⟩:=ii (P:=X.prog) (w:=X.w) rel
 obtain ⟨z,hd,vs0,r0,dd⟩:=yc I2.hok e
 cases r0
 refine ⟨rs,c,dd,fun h' dd' hs=>⟨.ref s.heap.objs.size,_,?_,rfl,q2⟩⟩
 have hz:(hU [] kvs).length≤sizeLine:=by
  have h1:=dU kvs []
  rw [zm] at h1
  rw [sizeLine_eq];omega
 have he:∃q,h'.get? s.heap.objs.size=some q:=let ⟨q,_,_,hq,_⟩:=dd';⟨q,hq⟩
 exact or I2 (by rw [e];exact True.intro) hs he (wR hz hd (rk.merge .nil) dd')
structure M2 (X:Cx) (o:Expr) (m:Str) (apos:Pos) (e f:Expr) (cpos:Pos):Prop where
 base:attributeBase o m X.env (eval o X.env)=eval o X.env
 few:((backTo cpos (starEach [e,f] X.env)).all (fun x=> !x.1)&& (backToKw cpos (keywordEach [] X.env)).all (fun x=>x.1.isSome)
  &&decide (([e,f]:List Expr).length+([]:List Keyword).length+(if ([]:List Keyword).isEmpty then 0 else 1) < 30))=true
 line:(apos.endLine==cpos.line)=true
 trees:backTo cpos (starEach [e,f] X.env)= [(false,eval e X.env),(false,eval f X.env)]
section
variable {X:Cx} {pins:List (Addr×Obj)} {σ:St} {H:Hp} {s:Shared} {a:Addr} {y d:V} {u r:Value} {o:Option V} {A:Around} {E:Value→Shared→Prop}
end
section
variable {X:Cx} {o e f:Expr} {apos cpos:Pos} {td ty tx:TE}
end
section
variable {X:Cx} {pins:List (Addr×Obj)} {σ:St} {H:Hp} {s:Shared} {a:Addr} {kvs:List (Key×V)} {A:Around} {E:Value→Shared→Prop}
end
section
variable {X:Cx} {pins:List (Addr×Obj)} {σ:St} {H:Hp} {s:Shared} {a:Addr} {y:V} {u:Value} {A:Around} {E:Value→Shared→Prop}
end
open PySem PySem.Spec PyProof.Rows
def oA (J:It) (D:Addr) (te:TE) (rest:L2.St) (Q:VK) (H1:Hp):Prop:=
 ∃W:Nat→Nat→List V→Hp→Prop,(∃m,W 0 m [] (upd H1 D (.lst [])))∧∀i m acc H2,W i m acc H2→
  (J.stop i H2∧Q (.ref D) H2)∨
  (J.go i H2∧∀x H3,J.yld i H2 x H3→dn 0 x (none::rest) H3 fun σ4 H4=>Ext (none::rest) σ4∧eJ σ4 H4 fun b H5=>if b=true then te σ4 H5 fun v H6=>H6 D=some (.lst acc)∧acc.length < sizeLine∧∃m',m' < m∧W (i+1) m' (acc++ [v]) (upd H6 D (.lst (acc++ [v])))
   else∃m',m' < m∧W (i+1) m' acc H5)
theorem cm {mp:List (Option Nat)} {wi:TI} {te:TE} {σ rest:L2.St} {H:Hp} {Q:VK} (e:subS mp σ=none::rest) (h:wi σ H fun J H1=>∀D,H1 D=none→oA J D te rest Q H1):iy mp wi (dn 0) eJ te σ H Q:=by
 unfold iy
 rw [e]
 exact h
def CompN (n i:Nat) (D:Addr) (acc:List V) (Pv:Nat→List V→Hp→Prop):VK:=fun v H6=>H6 D=some (.lst acc)∧acc.length < sizeLine∧∃m',m' < n - i∧(m'=n - (i+1)∧i+1≤n∧Pv (i+1) (acc++ [v]) (upd H6 D (.lst (acc++ [v]))))
theorem CompN.mk {n i:Nat} {D:Addr} {acc:List V} {Pv:Nat→List V→Hp→Prop} {v:V} {H6:Hp} (hi:i < n) (hl:acc.length < sizeLine) (h1:H6 D=some (.lst acc)) (h2:Pv (i+1) (acc++ [v]) (upd H6 D (.lst (acc++ [v])))):CompN n i D acc Pv v H6:=
 ⟨h1,hl,n - (i+1),by omega,rfl,hi,h2⟩
theorem ot {J:It} {D:Addr} {te:TE} {rest:L2.St} {Q:VK} {H1:Hp} (n:Nat) (Pv:Nat→List V→Hp→Prop) (h0:Pv 0 [] (upd H1 D (.lst [])))
 (hgo:∀i acc H,i < n→Pv i acc H→J.go i H)
 (hs:∀i x acc H H',i < n→Pv i acc H→J.yld i H x H'→te (some x::rest) H' (CompN n i D acc Pv))
 (hd:∀acc H,Pv n acc H→J.stop n H∧Q (.ref D) H):oA J D te rest Q H1:=by
 refine ⟨fun i m acc H=>m=n - i∧i≤n∧Pv i acc H,⟨n,by simp,yO _,h0⟩,?_⟩
 rintro i m acc H ⟨rfl,hi,p⟩
 by_cases hlt:i < n
 · refine .inr ⟨hgo i acc H hlt p,fun x H' y=> ?_⟩
   refine ⟨ext1,?_⟩
   show (if true=true then te (some x::rest) H' (CompN n i D acc Pv) else∃m',m' < n - i∧(m'=n - (i+1)∧i+1≤n∧Pv (i+1) acc H'))
   exact iteT (hs i x acc H H' hlt p y)
 · have e:i=n:=by omega
   subst e
   exact .inl (hd acc H p)
theorem ia {K:PySem.W.Frag} {a D:Addr} {xs:List V} {te:TE} {rest:L2.St} {Q:VK} {H1:Hp} (Pv:Nat→List V→Hp→Prop) (h0:Pv 0 [] (upd H1 D (.lst [])))
 (hl:∀i acc H,Pv i acc H→SqT K H a xs)
 (hs:∀i x acc H,i < xs.length→xs[i]?=some x→Pv i acc H→te (some x::rest) H (CompN xs.length i D acc Pv))
 (hd:∀acc H,Pv xs.length acc H→Q (.ref D) H):oA (Itt K a) D te rest Q H1:=by
 refine ot xs.length Pv h0 (fun i acc H hi p=>⟨xs,xs[i],hl i acc H p,by simp [hi]⟩) (fun i x acc H H' hi p y=> ?_) fun acc H p=>⟨⟨xs,hl _ acc H p,yl _⟩,hd acc H p⟩
 obtain ⟨e,y⟩:=y
 subst e
 exact hs i x acc _ hi (y xs (hl i acc _ p)) p
theorem cZ {n:Nat} {D:Addr} {te:TE} {rest:L2.St} {Q:VK} {H1:Hp} (Pv:Nat→List V→Hp→Prop) (h0:Pv 0 [] (upd H1 D (.lst [])))
 (hs:∀(i:Nat) acc H,i < n→Pv i acc H→te (some (.int (0+(i:Int)))::rest) H (CompN n i D acc Pv))
 (hd:∀acc H,Pv n acc H→Q (.ref D) H):oA (Itr 0 n) D te rest Q H1:=by
 refine ot n Pv h0 (fun i acc H hi p=>hi) (fun i x acc H H' hi p y=> ?_) fun acc H p=>⟨yl _,hd acc H p⟩
 obtain ⟨e,y⟩:=y
 subst e y
 exact hs i acc _ hi p
end L2
namespace Tk
open PySem PySem.Spec PyProof.Rows L2
inductive KT where
 |lf (k:Key)
 |tp (ts:List KT)
noncomputable instance:DecidableEq KT:=Classical.typeDecidableEq KT
mutual
noncomputable def KT.depth:KT→Nat
 | .lf _=>0
 | .tp ts=>KTs.depth ts+1
noncomputable def KTs.depth:List KT→Nat
 | []=>0
 |t::ts=>max (KT.depth t) (KTs.depth ts)
end
theorem eG:∀ {ts:List KT} {t:KT},t∈ts→t.depth≤KTs.depth ts
 |a::ts,t,h=>by
  unfold KTs.depth
  rcases yk.mp h with rfl|h
  · omega
  · have:=eG h
    omega
mutual
def KAt (h:Heap):Value→KT→Prop
 |v, .lf k=>dX k v=true
 |v, .tp ts=>∃a o items n,v= .ref a∧h.get? a=some o∧o.cls= .type "tuple"∧o.data= .seq items n∧KsAt h items.toList ts
def KsAt (h:Heap):List Value→List KT→Prop
 |vs,[]=>vs= []
 |vs,t::ts=>∃v r,vs=v::r∧KAt h v t∧KsAt h r ts
end
mutual
theorem KAt.keep {h h':Heap} (k:∀a o items n,h.get? a=some o→o.data= .seq items n→h'.get? a=some o):∀ {v:Value} {t:KT},KAt h v t→KAt h' v t
 |v, .lf k,x=>by unfold KAt at x ⊢;exact x
 |v, .tp ts,x=>by
  unfold KAt at x ⊢
  obtain ⟨a,o,items,n,e,g,c,d,r⟩:=x
  exact ⟨a,o,items,n,e,k a o items n g d,c,d,KsAt.keep k r⟩
theorem KsAt.keep {h h':Heap} (k:∀a o items n,h.get? a=some o→o.data= .seq items n→h'.get? a=some o):∀ {vs:List Value} {ts:List KT},KsAt h vs ts→KsAt h' vs ts
 |vs,[],x=>by unfold KsAt at x ⊢;exact x
 |vs,t::ts,x=>by
  unfold KsAt at x ⊢
  obtain ⟨v,r,e,x1,x2⟩:=x
  exact ⟨v,r,e,KAt.keep k x1,KsAt.keep k x2⟩
end
mutual
theorem KAt.det {h:Heap}:∀ {v:Value} {t u:KT},KAt h v t→KAt h v u→t=u
 |v, .lf k, .lf j,x,y=>by
  unfold KAt at x y
  rcases aH x with ⟨i,t,rfl,rfl⟩|⟨x',t,rfl,rfl⟩
  · rcases aH y with ⟨i',t',rfl,e⟩|⟨y',t',rfl,e⟩
    · injection e with e1 _
      rw [e1]
    · cases e
  · rcases aH y with ⟨i',t',rfl,e⟩|⟨y',t',rfl,e⟩
    · cases e
    · injection e with e1 _
      rw [e1]
 |v, .lf k, .tp us,x,y=>by
  unfold KAt at x y
  obtain ⟨a,o,items,n,rfl,_⟩:=y
  rcases aH x with ⟨i,t,rfl,e⟩|⟨x',t,rfl,e⟩<;>cases e
 |v, .tp ts, .lf k,x,y=>by
  unfold KAt at x y
  obtain ⟨a,o,items,n,rfl,_⟩:=x
  rcases aH y with ⟨i,t,rfl,e⟩|⟨x',t,rfl,e⟩<;>cases e
 |v, .tp ts, .tp us,x,y=>by
  unfold KAt at x y
  obtain ⟨a,o,items,n,rfl,g,c,d,r⟩:=x
  obtain ⟨a',o',items',n',e,g',c',d',r'⟩:=y
  injection e with e
  subst e
  rw [g] at g'
  cases g'
  rw [d] at d'
  injection d' with d1 _
  subst d1
  rw [KsAt.det r r']
theorem KsAt.det {h:Heap}:∀ {vs:List Value} {ts us:List KT},KsAt h vs ts→KsAt h vs us→ts=us
 |vs,[],[],_,_=>rfl
 |vs,[],u::us,x,y=>by
  unfold KsAt at x y
  obtain ⟨v,r,e,_⟩:=y
  rw [x] at e
  cases e
 |vs,t::ts,[],x,y=>by
  unfold KsAt at x y
  obtain ⟨v,r,e,_⟩:=x
  rw [y] at e
  cases e
 |vs,t::ts,u::us,x,y=>by
  unfold KsAt at x y
  obtain ⟨v,r,rfl,x1,x2⟩:=x
  obtain ⟨v',r',e,y1,y2⟩:=y
  cases e
  rw [KAt.det x1 y1,KsAt.det x2 y2]
end
theorem KsAt.len {h:Heap}:∀ {vs:List Value} {ts:List KT},KsAt h vs ts→vs.length=ts.length
 |vs,[],x=>by unfold KsAt at x;rw [x];rfl
 |vs,t::ts,x=>by
  unfold KsAt at x
  obtain ⟨v,r,rfl,_,x2⟩:=x
  rw [yC,yC,KsAt.len x2]
theorem KsAt.get {h:Heap}:∀ {vs:List Value} {ts:List KT} {j:Nat} {v:Value},KsAt h vs ts→vs[j]?=some v→∃t,ts[j]?=some t∧KAt h v t
 |vs,[],j,v,x,e=>by
  unfold KsAt at x
  rw [x] at e
  cases e
 |vs,t::ts,0,v,x,e=>by
  unfold KsAt at x
  obtain ⟨v',r,rfl,x1,_⟩:=x
  cases e
  exact ⟨t,rfl,x1⟩
 |vs,t::ts,j+1,v,x,e=>by
  unfold KsAt at x
  obtain ⟨v',r,rfl,_,x2⟩:=x
  exact KsAt.get (j:=j) x2 e
section
variable (prog:Program) (w:World)
mutual
noncomputable def KT.hash:KT→Int
 | .lf k=>(b8 prog w).hash k
 | .tp ts=>reduceHash (Builtin.Tuple.tupleHashOf (KTs.hash ts))
noncomputable def KTs.hash:List KT→List Int
 | []=> []
 |t::ts=>KT.hash t::KTs.hash ts
end
end
mutual
noncomputable def KT.draws:KT→Nat
 | .lf _=>1
 | .tp ts=>KTs.draws ts+1
noncomputable def KTs.draws:List KT→Nat
 | []=>0
 |t::ts=>KT.draws t+KTs.draws ts
end
theorem kU (prog:Program) (w:World):∀(a b:List KT),KTs.hash prog w (a++b)=KTs.hash prog w a++KTs.hash prog w b
 | [],b=>by simp [KTs.hash]
 |t::a,b=>by simp [KTs.hash,kU prog w a b]
theorem iP:∀(a b:List KT),KTs.draws (a++b)=KTs.draws a+KTs.draws b
 | [],b=>by simp [KTs.draws]
 |t::a,b=>by simp [KTs.draws,iP a b,Nat.add_assoc]
section
variable {prog:Program} {w:World}
theorem nY:∀(n:Nat) {A:Around} {E:Value→Shared→Prop} {s:Shared} {t:KT} {v:Value} {Q:Int→Shared→Prop},t.depth≤n→A.units+n < cLine→KAt s.heap v t→Q (t.hash prog w) {s with toks:=s.toks+t.draws}→wpAny (model prog w) A (pyHash v) Q E s:=by
 intro n
 induction n with
 |zero=>
  intro A E s t v Q hd hu hk h
  cases t with
  |tp ts=>simp [KT.depth] at hd
  |lf k=>
   unfold KAt at hk
   simp only [KT.hash,KT.draws] at h
   exact (b8 prog w).pyHash hk h
 |succ n ih=>
  intro A E s t v Q hd hu hk h
  cases t with
  |lf k=>
   unfold KAt at hk
   simp only [KT.hash,KT.draws] at h
   exact (b8 prog w).pyHash hk h
  |tp ts=>
   unfold KAt at hk
   obtain ⟨a,o,items,m,rfl,g,c,d,r⟩:=hk
   have ty:s.TypeIs (.ref a) "tuple":=⟨o,g,c⟩
   have hd':KTs.depth ts≤n:=by
    unfold KT.depth at hd
    omega
   simp only [KT.hash,KT.draws] at h
   unfold pyHash
   unfold pyHashByItsType
   refine wpAny_bind (wpAny_cRoomFor_or (.inr (by omega)) (wpAny_bind (wpAny_specialOf ty F.slot_tuple_hash.lookup ?_)))
   show wpAny _ _ (if (some (Value.builtin "tuple.__hash__")==some Value.none)=true then _ else _) _ _ _
   rw [if_neg (fun z=>by rw [beq_builtin_none] at z;cases z)]
   refine wpAny_bind (wpAny_specialOf ty F.slot_tuple_hash.lookup ?_)
   show wpAny _ _ (do let y←callSpecialIfBoundUnlessNone? (.ref a) "__hash__" _;_) _ _ _
   refine wpAny_bind (wpAny_callSpecialIfBoundUnlessNone?_slot ty F.slot_tuple_hash (wpAny_call_entry F.slot_tuple_hash ty F.entry_tuple_hash ?_ (F.args_tuple_hash_1 _)))
   show wpAny _ _ (do let y←Builtin.Tuple.tupleItemsOf (.ref a);_) _ _ _
   refine wpAny_bind (wpAny_tupleItemsOf g d (wpAny_bind ?_))
   rw [←Array.forIn_toList]
   refine wpAny_forIn_list _ (fun rest (b:Array Int) s'=>∃done left,ts=done++left∧KsAt s.heap rest left∧b.toList=KTs.hash prog w done∧s'= {s with toks:=s.toks+KTs.draws done}) _ ?_ ?_ _ _ ⟨[],ts,rfl,r,rfl,by simp [KTs.draws]⟩
   · rintro x rest b s' ⟨done,left,rfl,hl,hb,rfl⟩
     cases left with
     |nil=>
      unfold KsAt at hl
      cases hl
     |cons t left=>
      unfold KsAt at hl
      obtain ⟨v,rr,e,h1,h2⟩:=hl
      cases e
      have dt:t.depth≤n:=by
       have:=eG (show t∈done++t::left by simp)
       omega
      refine wpAny_bind (ih (s:= {s with toks:=s.toks+KTs.draws done}) dt (by first|(show A.units+1+n < cLine;omega)|(show A.units+n < cLine;omega)) h1 ?_)
      have fin:∃done' left',done++t::left=done'++left'∧KsAt s.heap rest left'∧(b.push (KT.hash prog w t)).toList=KTs.hash prog w done'∧({s with toks:=s.toks+KTs.draws done+t.draws}:Shared)= {s with toks:=s.toks+KTs.draws done'}:=by
       refine ⟨done++ [t],left,by simp,h2,by rw [kU,Array.toList_push,hb];simp [KTs.hash],?_⟩
       rw [iP]
       simp [KTs.draws,Nat.add_assoc]
      first
       |exact wpAny_pure fin
       |exact wpAny_bind (wpAny_pure (wpAny_pure fin))
   · rintro b s' ⟨done,left,rfl,hl,hb,rfl⟩
     cases left with
     |cons t left=>
      unfold KsAt at hl
      obtain ⟨v,rr,e,_⟩:=hl
      cases e
     |nil=>
      rw [List.append_nil] at h
      show wpAny _ _ (retInt (Builtin.Tuple.tupleHashOf b.toList)) _ _ _
      rw [hb]
      refine wpAny_ret_mkInt ?_
      show wpAny _ _ (if (decide (-(2:Int)^63≤Builtin.Tuple.tupleHashOf (KTs.hash prog w done))&&decide (Builtin.Tuple.tupleHashOf (KTs.hash prog w done) < 2^63))=true then _ else _) _ _ _
      unfold reduceHash at h
      by_cases hr:(decide (-(2:Int)^63≤Builtin.Tuple.tupleHashOf (KTs.hash prog w done))&&decide (Builtin.Tuple.tupleHashOf (KTs.hash prog w done) < 2^63))=true
      · rw [if_pos hr] at h ⊢
        exact wpAny_pure (by simpa [Nat.add_assoc] using h)
      · rw [if_neg hr] at h ⊢
        exact wpAny_bind (wpAny_rule (wpAny_pure (by simpa [Nat.add_assoc] using h)))
end
open PySem PySem.Spec PyProof.Rows L2
theorem uH {ts us:List KT}:((List.range (min ts.length us.length)).all (fun j=>decide (ts[j]?=us[j]?))&&ts.length==us.length)=decide (ts=us):=by
 by_cases h:ts=us
 · subst h
   simp
 · rw [decide_eq_false h]
   by_cases hl:ts.length=us.length
   · have:∃j,j < ts.length∧ts[j]?≠us[j]?:=by
      refine Classical.byContradiction fun n=>h (zx fun j=> ?_)
      by_cases hj:j < ts.length
      · exact Classical.byContradiction fun z=>n ⟨j,hj,z⟩
      · rw [yQ (by omega),yQ (by omega)]
     obtain ⟨j,hj,ne⟩:=this
     rw [Bool.and_eq_false_iff]
     left
     refine List.all_eq_false.mpr ⟨j,yY.mpr (by omega),?_⟩
     simp [ne]
   · rw [Bool.and_eq_false_iff]
     right
     simp [hl]
theorem rN:∀(n:Nat) {A:Around} {s:Shared} {t u:KT} {a b:Value},t.depth≤n→A.units+n+1 < cLine→KAt s.heap a t→KAt s.heap b u→SeqAt.EqAt A s a b (decide (t=u)):=by
 intro n
 induction n with
 |zero=>
  intro A s t u a b hd hu h1 h2
  cases t with
  |tp ts=>simp [KT.depth] at hd
  |lf k=>
   unfold KAt at h1
   cases u with
   |lf j=>
    unfold KAt at h2
    intro prog w E Q q
    refine (b8 prog w).eqBool h1 h2 ?_
    have e:decide (k=j)=decide (KT.lf k=KT.lf j):=by simp
    rw [e]
    exact q
   |tp us=>
    unfold KAt at h2
    obtain ⟨r,o,items,m,rfl,g,c,d,_⟩:=h2
    rw [decide_eq_false (by intro z;cases z)]
    rcases aH h1 with ⟨i,t,rfl,rfl⟩|⟨x,t,rfl,rfl⟩
    · exact SeqAt.EqAt.int_tuple i t (items:=items) ⟨o,g,c,m,d⟩ (by omega)
    · exact SeqAt.EqAt.str_tuple x t (items:=items) ⟨o,g,c,m,d⟩ (by omega)
 |succ n ih=>
  intro A s t u a b hd hu h1 h2
  cases t with
  |lf k=>
   unfold KAt at h1
   cases u with
   |lf j=>
    unfold KAt at h2
    intro prog w E Q q
    refine (b8 prog w).eqBool h1 h2 ?_
    have e:decide (k=j)=decide (KT.lf k=KT.lf j):=by simp
    rw [e]
    exact q
   |tp us=>
    unfold KAt at h2
    obtain ⟨r,o,items,m,rfl,g,c,d,_⟩:=h2
    rw [decide_eq_false (by intro z;cases z)]
    rcases aH h1 with ⟨i,t,rfl,rfl⟩|⟨x,t,rfl,rfl⟩
    · exact SeqAt.EqAt.int_tuple i t (items:=items) ⟨o,g,c,m,d⟩ (by omega)
    · exact SeqAt.EqAt.str_tuple x t (items:=items) ⟨o,g,c,m,d⟩ (by omega)
  |tp ts=>
   have h1':=h1
   have h2':=h2
   unfold KAt at h1
   obtain ⟨r,o,items,m,rfl,g,c,d,k1⟩:=h1
   cases u with
   |lf j=>
    unfold KAt at h2
    rw [decide_eq_false (by intro z;cases z)]
    rcases aH h2 with ⟨i,t,rfl,rfl⟩|⟨x,t,rfl,rfl⟩
    · exact SeqAt.EqAt.tuple_int i t (items:=items) ⟨o,g,c,m,d⟩ (by omega)
    · exact SeqAt.EqAt.tuple_str x t (items:=items) ⟨o,g,c,m,d⟩ (by omega)
   |tp us=>
    unfold KAt at h2
    obtain ⟨r',o',items',m',rfl,g',c',d',k2⟩:=h2
    by_cases z:r=r'
    · subst z
      rw [decide_eq_true (KAt.det h1' h2')]
      exact SeqAt.EqAt.same _
    · have hd':KTs.depth ts≤n:=by
       unfold KT.depth at hd
       omega
      have l1:=k1.len
      have l2:=k2.len
      have:=SeqAt.RcAt.tuples (A:=A) (e:=fun j=>decide (ts[j]?=us[j]?)) (show s.heap.IsTuple r items from ⟨o,g,c,m,d⟩) (show s.heap.IsTuple r' items' from ⟨o',g',c',m',d'⟩) (by omega) fun j g1 g2=>by
       obtain ⟨t1,e1,a1⟩:=k1.get (j:=j) (v:=items[j]) (by rw [yK];simp [g1])
       obtain ⟨t2,e2,a2⟩:=k2.get (j:=j) (v:=items'[j]) (by rw [yK];simp [g2])
       have e:decide (ts[j]?=us[j]?)=decide (t1=t2):=by rw [e1,e2];simp
       rw [e]
       refine ih (A:=A.in1) ?_ (by show A.units+1+n+1 < cLine;omega) a1 a2
       have:=eG (yw e1)
       omega
      have hs1:items.size=ts.length:=by rw [←l1,yy]
      have hs2:items'.size=us.length:=by rw [←l2,yy]
      rw [hs1,hs2,uH] at this
      have e:decide (KT.tp ts=KT.tp us)=decide (ts=us):=by simp
      rw [e]
      exact SeqAt.EqAt.of_refs z this
theorem gX:∀(n:Nat) {prog:Program} {w:World} {A:Around} {E:Value→Shared→Prop} {s:Shared} {t:KT} {v:Value} {Q:Bool→Shared→Prop},KAt s.heap v t→t.depth≤n→Q true s→wpAny (model prog w) A (eqIsQuiet n v) Q E s:=by
 have leaf:∀(n:Nat) {prog:Program} {w:World} {A:Around} {E:Value→Shared→Prop} {s:Shared} {k:Key} {v:Value} {Q:Bool→Shared→Prop},dX k v=true→Q true s→wpAny (model prog w) A (eqIsQuiet n v) Q E s:=by
  intro n prog w A E s k v Q h q
  rw [eqIsQuiet_byValue _ ((b8 prog w).byValue k v h)]
  exact wpAny_pure q
 intro n
 induction n with
 |zero=>
  intro prog w A E s t v Q h hd q
  cases t with
  |tp ts=>simp [KT.depth] at hd
  |lf k=>
   unfold KAt at h
   exact leaf 0 h q
 |succ n ih=>
  intro prog w A E s t v Q h hd q
  cases t with
  |lf k=>
   unfold KAt at h
   exact leaf _ h q
  |tp ts=>
   unfold KAt at h
   obtain ⟨a,o,items,m,rfl,g,c,d,r⟩:=h
   have ty:s.TypeIs (.ref a) "tuple":=⟨o,g,c⟩
   have hd':KTs.depth ts≤n:=by
    unfold KT.depth at hd
    omega
   unfold eqIsQuiet
   refine wpAny_bind (wpAny_specialOf ty F.slot_tuple_eq.lookup ?_)
   show wpAny _ _ (do let y←isInstance (.ref a) (.type "tuple");_) _ _ _
   refine wpAny_bind (wpAny_isInstance ty isSubtype_tuple_tuple ?_)
   simp only [Bool.not_true,if_false,yA]
   refine wpAny_bind (wpAny_seqItems g d (wpAny_bind ?_))
   show wpAny _ _ (forIn items _ _) _ _ _
   rw [←Array.forIn_toList]
   refine wpAny_forIn_list _ (fun rest b s'=>b.1=none∧s'=s∧∃left,KsAt s.heap rest left∧KTs.depth left≤n) _ ?_ ?_ _ _ ⟨rfl,rfl,ts,r,hd'⟩
   · rintro x rest b s' ⟨hb,rfl,left,hl,hd2⟩
     cases left with
     |nil=>
      unfold KsAt at hl
      cases hl
     |cons t left=>
      unfold KsAt at hl
      obtain ⟨v,rr,e,h1,h2⟩:=hl
      cases e
      unfold KTs.depth at hd2
      refine wpAny_bind (ih h1 (by omega) ?_)
      simp only [Bool.not_true,if_false,yA]
      exact wpAny_pure ⟨rfl,rfl,left,h2,by omega⟩
   · rintro ⟨b1,b2⟩ s' ⟨hb,rfl,_⟩
     simp only at hb
     subst hb
     exact wpAny_pure q
noncomputable def treeKind (prog:Program) (w:World):HeapKind prog w (List KT) where
 is:=fun h ts a=>KAt h (.ref a) (.tp ts)∧(KT.tp ts).depth≤8
 hash:=fun ts=>(KT.tp ts).hash prog w
 draws:=fun ts=>(KT.tp ts).draws
 room:=fun A=>A.units+20 < cLine
 inj:=fun x y=>by
  have:=KAt.det x.1 y.1
  injection this
 keeps:=fun {h h' k a d o es ep} x g hd sb=>⟨x.1.keep fun b ob items n e dt=>by
  have ne:b≠d:=fun z=>by
   subst z
   rw [g] at e
   cases e
   rw [hd] at dt
   cases dt
  exact (sb.2 b ne).trans e,x.2⟩
 pyHash:=fun hu x q=>nY 8 x.2 (by omega) x.1 q
 eqBool:=fun {A E s x y a b Q} hu hx hy q=>by
  refine rN 8 (t:= .tp x) (u:= .tp y) hx.2 (by omega) hx.1 hy.1 prog w E Q ?_
  have e:decide (KT.tp x=KT.tp y)=decide (x=y):=by simp
  rw [e]
  exact q
 quiet:=fun x q=>gX 8 x.1 x.2 q
end Tk
namespace Dj
open PySem PySem.Spec PyProof.Rows L2 Tre
def SqX (K:PySem.W.Frag) (H:Hp) (a:Addr) (xs:List V):Prop:=
 H a=some (.tup xs)∨∃(o:Obj) (its:Array Value) (n:Nat),K.lookup a=some o∧o.cls= .type "tuple"∧o.data= .seq its n∧its.size≤sizeLine∧Vals xs its.toList
theorem SqX.sq {K:PySem.W.Frag} {H:Hp} {a:Addr} {xs:List V} (h:SqX K H a xs):SqT K H a xs:=h.elim (fun e=> .inl (.inl e)) .inr
theorem SqX.mono {K:PySem.W.Frag} {H H':Hp} {a:Addr} {xs:List V} (d:Kd H H') (h:SqX K H a xs):SqX K H' a xs:=h.elim (fun e=> .inl (d.tup _ _ e)) .inr
mutual
def KVt (K:PySem.W.Frag) (H:Hp):V→Tk.KT→Prop
 |v, .lf (.inl i)=>v= .int i
 |v, .lf (.inr x)=>v= .str x
 |v, .tp ts=>∃r vs,v= .ref r∧SqX K H r vs∧KVts K H vs ts
def KVts (K:PySem.W.Frag) (H:Hp):List V→List Tk.KT→Prop
 |vs,[]=>vs= []
 |vs,t::ts=>∃v r,vs=v::r∧KVt K H v t∧KVts K H r ts
end
section
variable {P:Program} {w:World} {K:PySem.W.Frag} {H H':Hp} {h:Heap}
mutual
theorem KVt.mono (d:Kd H H'):∀ {v:V} {t:Tk.KT},KVt K H v t→KVt K H' v t
 |v, .lf (.inl i),a=>by unfold KVt at a ⊢;exact a
 |v, .lf (.inr x),a=>by unfold KVt at a ⊢;exact a
 |v, .tp ts,a=>by
  unfold KVt at a ⊢
  obtain ⟨r,vs,e,s,q⟩:=a
  exact ⟨r,vs,e,s.mono d,KVts.mono d q⟩
theorem KVts.mono (d:Kd H H'):∀ {vs:List V} {ts:List Tk.KT},KVts K H vs ts→KVts K H' vs ts
 |vs,[],a=>by unfold KVts at a ⊢;exact a
 |vs,t::ts,a=>by
  unfold KVts at a ⊢
  obtain ⟨v,r,e,a1,a2⟩:=a
  exact ⟨v,r,e,KVt.mono d a1,KVts.mono d a2⟩
end
theorem vG (ok:HOk P w H h) (kin:K.In h) {q:Addr} {vs:List V} (e:SqX K H q vs):∃its:List Value,Vals vs its∧∃o n,h.get? q=some o∧o.cls= .type "tuple"∧o.data= .seq its.toArray n:=by
 rcases e with e|⟨o,its,n,hk,hc,hs,hz,r⟩
 · obtain ⟨_,its,rv,o,h1,h2,n,h3⟩:=(show ObjOk P w H h q (.tup vs) from ok q _ e)
   exact ⟨its,rv,o,n,h1,h2,h3⟩
 · exact ⟨its.toList,r,o,n,kin q o hk,hc,by simpa using hs⟩
mutual
theorem rC (ok:HOk P w H h) (kin:K.In h):∀ {v:V} {t:Tk.KT} {u:Value},KVt K H v t→RelV v u→Tk.KAt h u t
 |v, .lf (.inl i),u,a,r=>by
  unfold KVt at a
  subst a
  obtain ⟨t,rfl⟩:=r
  simp only [Tk.KAt]
  exact iO i t
 |v, .lf (.inr x),u,a,r=>by
  unfold KVt at a
  subst a
  obtain ⟨t,rfl⟩:=r
  simp only [Tk.KAt]
  exact iN x t
 |v, .tp ts,u,a,r=>by
  unfold KVt at a
  obtain ⟨q,vs,rfl,e,as⟩:=a
  obtain rfl:u=Value.ref q:=r
  obtain ⟨its,rv,o,n,h1,h2,h3⟩:=vG ok kin e
  simp only [Tk.KAt]
  exact ⟨q,o,its.toArray,n,rfl,h1,h2,h3,by simpa using kats_of ok kin as rv⟩
theorem kats_of (ok:HOk P w H h) (kin:K.In h):∀ {vs:List V} {ts:List Tk.KT} {us:List Value},KVts K H vs ts→Vals vs us→Tk.KsAt h us ts
 |vs,[],us,a,r=>by
  unfold KVts at a
  subst a
  cases r
  simp [Tk.KsAt]
 |vs,t::ts,us,a,r=>by
  unfold KVts at a
  obtain ⟨v,q,rfl,a1,a2⟩:=a
  cases r with
  |cons r1 r2=>
   simp only [Tk.KsAt]
   exact ⟨_,_,rfl,rC ok kin a1 r1,kats_of ok kin a2 r2⟩
end
end
def KeyAt (K:PySem.W.Frag) (H:Hp) (k:List Tk.KT) (b:Addr):Prop:=∃vs,SqX K H b vs∧KVts K H vs k∧(Tk.KT.tp k).depth≤8
theorem KeyAt.mono {K:PySem.W.Frag} {H H':Hp} {k:List Tk.KT} {b:Addr} (d:Kd H H') (h:KeyAt K H k b):KeyAt K H' k b:=by
 obtain ⟨ts,h1,h2,h3⟩:=h
 exact ⟨ts,h1.mono d,h2.mono d,h3⟩
theorem KeyAt.is {P:Program} {w:World} {K:PySem.W.Frag} {H:Hp} {h:Heap} {k:List Tk.KT} {b:Addr} (ok:HOk P w H h) (kin:K.In h) (x:KeyAt K H k b):(Tk.treeKind P w).is h k b:=by
 obtain ⟨vs,h1,h2,h4⟩:=x
 have:=rC ok kin (v:= .ref b) (t:= .tp k) (u:= .ref b) (by unfold KVt;exact ⟨b,vs,rfl,h1,h2⟩) rfl
 exact ⟨this,h4⟩
abbrev Ent:=List Tk.KT×Addr×V
abbrev RE:List Ent→List (List Tk.KT×Addr×Value)→Prop:=Paired fun p q=>p.1=q.1∧p.2.1=q.2.1∧RelV p.2.2 q.2.2
noncomputable def dJ (P:Program) (w:World) (a:Addr) (kvs:List Ent):HO:= .ext fun h=>kvs.length≤sizeLine∧(a==sysModules)=false∧
 ∃xs:List (List Tk.KT×Addr×Value),RE kvs xs∧∃o es ep,h.get? a=some o∧o.ExactDict∧o.data= .dict es ep∧es.toList=xs.map (entryOfKey (Tk.treeKind P w))∧(xs.map (·.1)).Nodup
structure DJ (P:Program) (w:World) (K:PySem.W.Frag) (H:Hp) (a:Addr) (kvs:List Ent):Prop where
 at_:H a=some (dJ P w a kvs)
 keys:∀p∈kvs,KeyAt K H p.1 p.2.1
noncomputable def valJ (kvs:List Ent) (k:List Tk.KT):Option V:=(kvs.find? fun p=>decide (p.1=k)).map (·.2.2)
noncomputable def putJ (kvs:List Ent) (k:List Tk.KT) (b:Addr) (v:V):List Ent:=
 if (valJ kvs k).isSome then kvs.map (fun p=>if p.1=k then (p.1,p.2.1,v) else p) else kvs++ [(k,b,v)]
theorem jM {p:Ent} {r:List Ent} {k:List Tk.KT} (e:p.1=k):valJ (p::r) k=some p.2.2:=by simp [valJ,List.find?_cons,e]
theorem gy {p:Ent} {r:List Ent} {k:List Tk.KT} (e:¬p.1=k):valJ (p::r) k=valJ r k:=by simp [valJ,List.find?_cons,e]
theorem kJ (kvs:List Ent) (k:List Tk.KT) (b:Addr) (v:V):(putJ kvs k b v).length≤kvs.length+1:=by
 unfold putJ
 split
 · rw [yo];omega
 · rw [yt,yC,zm];omega
theorem RE.val {kvs:List Ent} {xs:List (List Tk.KT×Addr×Value)} (r:RE kvs xs) (k:List Tk.KT):RelO (valJ kvs k) ((atKey xs k).map (·.2)):=by
 induction r with
 |nil=>exact True.intro
 | @cons p q ps qs h t ih=>
  obtain ⟨h1,_,h2⟩:=h
  by_cases e:p.1=k
  · have e':q.1=k:=h1.symm.trans e
    have b:atKey (q::qs) k=some q.2:=by simp [atKey,List.find?_cons,e']
    rw [jM e,b];exact h2
  · have e':¬q.1=k:=fun z=>e (h1.trans z)
    have b:atKey (q::qs) k=atKey qs k:=by simp [atKey,List.find?_cons,e']
    rw [gy e,b];exact ih
theorem RE.repl {kvs:List Ent} {xs:List (List Tk.KT×Addr×Value)} (r:RE kvs xs) (k:List Tk.KT) {y:V} {u:Value} (ry:RelV y u):
 RE (kvs.map fun p=>if p.1=k then (p.1,p.2.1,y) else p) (xs.map (putAt k u)):=by
 induction r with
 |nil=>exact .nil
 | @cons p q ps qs h t ih=>
  rw [yD,yD]
  refine .cons ?_ ih
  obtain ⟨h1,h2,h3⟩:=h
  unfold putAt
  by_cases e:p.1=k
  · rw [if_pos e,if_pos (h1.symm.trans e)];exact ⟨h1,h2,ry⟩
  · rw [if_neg e,if_neg (fun z=>e (h1.trans z))];exact ⟨h1,h2,h3⟩
theorem RE.put {kvs:List Ent} {xs:List (List Tk.KT×Addr×Value)} (r:RE kvs xs) (k:List Tk.KT) {b:Addr} {y:V} {u:Value} (ry:RelV y u):RE (putJ kvs k b y) (storedH xs k b u):=by
 have e:(valJ kvs k).isSome=(atKey xs k).isSome:=by
  rw [(r.val k).isSome_eq,Option.isSome_map]
 unfold putJ storedH
 rw [e]
 by_cases q:(atKey xs k).isSome=true
 · rw [if_pos q,if_pos q];exact r.repl k ry
 · rw [if_neg q,if_neg q];exact Paired.snoc r ⟨rfl,rfl,ry⟩
theorem qw {kvs:List Ent} {k:List Tk.KT} {b:Addr} {v:V} {p:Ent} (h:p∈putJ kvs k b v):(∃q∈kvs,p.1=q.1∧p.2.1=q.2.1)∨(p.1=k∧p.2.1=b):=by
 unfold putJ at h
 split at h
 · obtain ⟨q,m,e⟩:=yV.mp h
   split at e
   · subst e;exact .inl ⟨q,m,rfl,rfl⟩
   · subst e;exact .inl ⟨q,m,rfl,rfl⟩
 · rcases yx.mp h with m|m
   · exact .inl ⟨p,m,rfl,rfl⟩
   · rw [yv.mp m];exact .inr ⟨rfl,rfl⟩
theorem Kd.updJ {P:Program} {w:World} {H:Hp} {a:Addr} {kvs:List Ent} {o:HO} (h:H a=some (dJ P w a kvs)):Kd H (upd H a o):=by
 refine ⟨fun b zs e=> ?_,fun b zs e=>⟨zs,?_⟩⟩
 · rw [aF (fun z=>by rw [z,h] at e;cases e)];exact e
 · rw [aF (fun z=>by rw [z,h] at e;cases e)];exact e
theorem DJ.put {P:Program} {w:World} {K:PySem.W.Frag} {H:Hp} {a b:Addr} {kvs:List Ent} {k:List Tk.KT} {v:V} (d:DJ P w K H a kvs) (hk:KeyAt K H k b):DJ P w K (upd H a (dJ P w a (putJ kvs k b v))) a (putJ kvs k b v):=by
 refine ⟨ad,fun p m=> ?_⟩
 refine KeyAt.mono (Kd.updJ d.at_) ?_
 rcases qw m with ⟨q,mq,e1,e2⟩|⟨e1,e2⟩
 · rw [e1,e2];exact d.keys q mq
 · rw [e1,e2];exact hk
theorem DJ.kd {P:Program} {w:World} {K:PySem.W.Frag} {H H':Hp} {a:Addr} {kvs:List Ent} (d:DJ P w K H a kvs) (k:Kd H H') (e:H' a=some (dJ P w a kvs)):DJ P w K H' a kvs:=⟨e,fun p m=>(d.keys p m).mono k⟩
section
variable {P:Program} {w:World} {H:Hp} {h:Heap} {a:Addr}
theorem lh {K:PySem.W.Frag} {kvs:List Ent} (ok:HOk P w H h) (kin:K.In h) (d:DJ P w K H a kvs):kvs.length≤sizeLine∧(a==sysModules)=false∧∃xs,RE kvs xs∧h.DictOfH (Tk.treeKind P w) a xs:=by
 obtain ⟨⟨z,y,xs,r,o,es,ep,h1,h2,h3,h4,h5⟩,_⟩:=(show ObjOk P w H h a (dJ P w a kvs) from ok a _ d.at_)
 refine ⟨z,y,xs,r,o,es,ep,h1,h2,h3,h4,?_,h5⟩
 have all:∀ {l:List Ent} {m:List (List Tk.KT×Addr×Value)},RE l m→(∀p∈l,KeyAt K H p.1 p.2.1)→∀x∈m,(Tk.treeKind P w).is h x.1 x.2.1:=by
  intro l m q
  induction q with
  |nil=>intro _ x hx;exact nomatch hx
  | @cons p q ps qs hq t ih=>
   intro kp x hx
   rcases yk.mp hx with e|hx
   · subst e
     rw [←hq.1,←hq.2.1]
     exact (kp p yn).is ok kin
   · exact ih (fun p m=>kp p (ym _ m)) x hx
 exact all r d.keys
theorem rS {kvs:List Ent} {xs:List (List Tk.KT×Addr×Value)} {H':Hp} {h':Heap} (z:kvs.length≤sizeLine) (y:(a==sysModules)=false) (r:RE kvs xs)
 (d:∃o es ep,h'.get? a=some o∧o.ExactDict∧o.data= .dict es ep∧es.toList=xs.map (entryOfKey (Tk.treeKind P w))∧(xs.map (·.1)).Nodup):ObjOk P w H' h' a (dJ P w a kvs):=by
 obtain ⟨o,es,ep,h1,h2⟩:=d
 refine ⟨⟨z,y,xs,r,o,es,ep,h1,h2⟩,⟨o,h1⟩,?_⟩
 rintro g1 g2 ⟨z,y,xs,r,o,es,ep,h1,h2⟩ st
 exact ⟨z,y,xs,r,o,es,ep,st _ h1,h2⟩
end
noncomputable def pP (P:Program) (w:World):TE:=fun _ H Q=>∀p,H p=none→Q (.ref p) (upd H p (dJ P w p []))
noncomputable def qk (P:Program) (w:World) (K:PySem.W.Frag) (td ty tv:TE):TS:=fun D σ H=>tv σ H fun v H1=>td σ H1 fun x H2=>ty σ H2 fun y H3=>∃a b k kvs,x= .ref a∧y= .ref b∧DJ P w K H3 a kvs∧KeyAt K H3 k b∧kvs.length < sizeLine∧D.nx σ (upd H3 a (dJ P w a (putJ kvs k b v)))
noncomputable def pQ (P:Program) (w:World) (K:PySem.W.Frag) (td ty tx:TE):TE:=fun σ H Q=>td σ H fun x H1=>∃a kvs,x= .ref a∧DJ P w K H1 a kvs∧ty σ H1 fun y H2=>tx σ H2 fun z H3=>∃b k,y= .ref b∧DJ P w K H3 a kvs∧KeyAt K H3 k b∧Q ((valJ kvs k).getD z) H3
section
variable {X:Cx} {pos pos' apos cpos:Pos} {o i e f value:Expr} {td ty tv tx:TE}
theorem rT {P:Program} {w:World} {H:Hp} (h:Heap) (hb:sysModules < h.objs.size):ObjOk P w H (h.push {cls:= .type "dict",data:= .dict #[]}) h.objs.size (dJ P w h.objs.size []):=
 rS (yO _) (beq_eq_false_iff_ne.mpr (Ne.symm (yE hb))) .nil ⟨_, #[],0,Heap.get?_push_size _ rfl,⟨rfl,rfl,rfl⟩,rfl,rfl,List.nodup_nil⟩
theorem qN:PE X (.Dict [] [] pos) (pP X.prog X.w):=fun pins s σ H Q I h=>
 wpAny_Dict_empty ⟨.ref s.heap.objs.size,_,I.laid (a:=s.heap.objs.size) (o:=dJ X.prog X.w s.heap.objs.size []) (t':=s.toks) (fun _ _ q=>Heap.get?_push_of_some _ q) (yl _) (rT s.heap I.big),rfl,h _ (I.hok.fresh (yl _))⟩
theorem qA (hu:X.A.units+30 < cLine) (ho:PE X o td) (hi:PE X i ty) (hv:PE X value tv) (hs:swapsWith value (some (.Subscript o i pos')) pos.line X.env=pure false):
 PS X (.Assign [.Subscript o i pos'] value pos) (qk X.prog X.w X.K td ty tv):=by
 intro pins s σ H D I h
 refine wpAny_Assign_Subscript (thn (hv pins s σ H _ I h) fun r s1 ⟨v,H1,I1,rv,q1⟩=>thn (ho pins s1 σ H1 _ I1 q1) fun u s2 ⟨x,H2,I2,rx,q2⟩=>thn (hi pins s2 σ H2 _ I2 q2) fun iv s3 ⟨y,H3,I3,ry,a,b,k,kvs,ex,ey,d,kb,hl,q3⟩=> ?_) hs
 subst ex ey
 obtain rfl:u=Value.ref a:=rx
 obtain rfl:iv=Value.ref b:=ry
 obtain ⟨z,hd,xs,rel,dd⟩:=lh I3.hok I3.kIn d
 have hz:xs.length≤sizeLine:=by rw [←Paired.length rel];exact z
 have hl2:(putJ kvs k b v).length≤sizeLine:=by have:=kJ kvs k b v;omega
 refine wpAny_setItem_heap (hsz:=hz) (by show X.A.units+1+20 < cLine;omega) (kb.is I3.hok I3.kIn) dd fun h' dd' hs=>⟨σ,_,?_,q3⟩
 obtain ⟨q,es,ep,hq,h2,h3,h4,_,h5⟩:=dd'
 exact or I3 (by rw [d.at_];exact True.intro) hs ⟨q,hq⟩ (rS hl2 hd (rel.put k rv) ⟨q,es,ep,hq,h2,h3,h4,h5⟩)
theorem qO (hu:X.A.units+30 < cLine) (ho:PE X o td) (he:PE X e ty) (hf:PE X f tx) (m:M2 X o "get" apos e f cpos):PE X (.Call (.Attribute o "get" apos) [e,f] [] cpos) (pQ X.prog X.w X.K td ty tx):=by
 intro pins s σ H Q I h
 refine wpAny_Call_method m.base m.few m.line PySem.F.plainAttrs_dict PySem.F.slot_dict_get PySem.F.type_dict_get (thn (ho pins s σ H _ I h) fun u s1 ⟨x,H1,I1,rx,a,kvs,ex,d,q1⟩=> ?_)
 subst ex
 obtain rfl:u=Value.ref a:=rx
 have ty0:s1.TypeIs (.ref a) "dict"∧∀b,Value.ref a= .ref b→∃ob,s1.heap.get? b=some ob∧ob.dict=none:=by
  obtain ⟨_,_,xs,_,dd⟩:=lh I1.hok I1.kIn d
  refine ⟨dd.typeIs,fun b q=> ?_⟩
  cases q
  obtain ⟨ob,_,_,h1,h2,_⟩:=dd
  exact ⟨ob,h1,h2.2.1⟩
 refine ⟨ty0.1,ty0.2,?_⟩
 rw [m.trees]
 refine Calls.callWith_builtin rfl (Calls.evalArgs_plain (Calls.spliced_cons (thn (he pins s1 σ H1 _ I1 q1) fun iv s2 ⟨y,H2,I2,ry,q2⟩=>
  Calls.spliced_cons (thn (hf pins s2 σ H2 _ I2 q2) fun fv s3 ⟨z,H3,I3,rz,b,k,ey,d3,kb,q3⟩=>Calls.spliced_nil ?_))))
 subst ey
 obtain rfl:iv=Value.ref b:=ry
 obtain ⟨_,hd,xs,rel,dd⟩:=lh I3.hok I3.kIn d3
 exact call_meetsIn PySem.F.slot_dict_get dd.typeIs PySem.F.entry_dict_get (PySem.F.args_dict_get_3 _ _ _) (meetsH_dict_get_default (Tk.treeKind X.prog X.w) a b hd fv) ⟨by show X.A.units+1+20 < cLine;omega,k,xs,kb.is I3.hok I3.kIn,dd,⟨_,H3,I3.tok _,(rel.val k).getD rz,q3⟩⟩
variable {P:Program} {w:World} {K:PySem.W.Frag}
theorem tK (hP:X.prog=P) (hw:X.w=w):PE X (.Dict [] [] pos) (pP P w):=by
 subst hP hw
 exact qN
theorem tF (hP:X.prog=P) (hw:X.w=w) (hK:X.K=K) (hu:X.A.units+30 < cLine) (ho:PE X o td) (hi:PE X i ty) (hv:PE X value tv) (hs:swapsWith value (some (.Subscript o i pos')) pos.line X.env=pure false):
 PS X (.Assign [.Subscript o i pos'] value pos) (qk P w K td ty tv):=by
 subst hP hw hK
 exact qA hu ho hi hv hs
theorem tM (hP:X.prog=P) (hw:X.w=w) (hK:X.K=K) (hu:X.A.units+30 < cLine) (ho:PE X o td) (he:PE X e ty) (hf:PE X f tx) (m:M2 X o "get" apos e f cpos):PE X (.Call (.Attribute o "get" apos) [e,f] [] cpos) (pQ P w K td ty tx):=by
 subst hP hw hK
 exact qO hu ho he hf m
end
end Dj
namespace Tre
open PySem L2
theorem gJ {x y:Str} (h:x.cps.toList=y.cps.toList):x=y:=by
 cases x
 cases y
 simp only [Str.mk.injEq]
 exact Array.toList_inj.mp h
theorem eW {ts us:List Tr} (h:∀t∈ts,∀u∈us,code t=code u→t=u) (e:codes ts=codes us):ts=us:=by
 induction ts generalizing us with
 |nil=>cases us with
  |nil=>rfl
  |cons u us=>simp [codes] at e
 |cons t ts ih=>
  cases us with
  |nil=>simp [codes] at e
  |cons u us=>
   simp only [codes,zf] at e
   rw [h t yn u yn e.1,ih (fun a ma b mb=>h a (ym _ ma) b (ym _ mb)) e.2]
theorem nl {x y:String} (h:(Str.ofString x).cps.toList≠(Str.ofString y).cps.toList) {r s:List Co}:Co.tup (.str (Str.ofString x).cps.toList::r)=Co.tup (.str (Str.ofString y).cps.toList::s)→False:=fun e=>by
 simp only [Co.tup.injEq,zf,Co.str.injEq] at e
 exact h e.1
theorem x3:∀(n:Nat) {k:So} {t u:Tr},t.depth≤n→Ty k t→Ty k u→code t=code u→t=u:=by
 intro n
 induction n with
 |zero=>
  intro k t u hd h1 h2
  cases h1<;>simp [Tr.depth] at hd
 |succ n ih=>
  intro k t u hd h1 h2 e
  have sub:∀ {ts:List Tr} {t:Tr},(Tr.tup ts).depth≤n+1→t∈ts→t.depth≤n:=fun h m=>by
   unfold Tr.depth at h
   have:=bq m
   omega
  have sub2:∀ {ts l:List Tr} {t:Tr},(Tr.tup ts).depth≤n+1→Tr.tup l∈ts→t∈l→t.depth≤n:=fun h m m2=>by
   have h3:=sub h m
   unfold Tr.depth at h3
   have:=bq m2
   omega
  cases h1<;>cases h2<;>simp only [code,codes] at e
  all_goals first
   |exact (nl (by decide +kernel) e).elim
   |skip
  all_goals simp only [Co.tup.injEq,zf,Co.str.injEq,Co.num.injEq,and_true,true_and] at e
  · rw [gJ e]
  · rename_i x ts _ h1 y us _ h2
    rw [gJ e.1,eW (fun a ma b mb=>ih (sub2 hd (by simp) ma) (h1 a ma) (h2 b mb)) e.2]
  · rw [e.1,e.2]
  · rename_i t1 f1 a1 b1 t2 f2 a2 b2
    rw [ih (sub hd (by simp)) a1 a2 e.1,ih (sub hd (by simp)) b1 b2 e.2]
  · rw [gJ e]
  · rename_i p1 f1 a1 b1 p2 f2 a2 b2
    rw [eW (fun a ma b mb=>ih (sub2 hd (by simp) ma) (a1 a ma) (a2 b mb)) e.1,ih (sub hd (by simp)) b1 b2 e.2]
  · rename_i t1 u1 a1 b1 t2 u2 a2 b2
    rw [ih (sub hd (by simp)) a1 a2 e.1,ih (sub hd (by simp)) b1 b2 e.2]
  · rename_i w1 a1 w2 a2
    rw [ih (sub hd (by simp)) a1 a2 e]
  · rename_i l1 a1 l2 a2
    rw [eW (fun a ma b mb=>ih (sub2 hd (by simp) ma) (a1 a ma) (a2 b mb)) e]
  · rename_i l1 a1 l2 a2
    rw [eW (fun a ma b mb=>ih (sub2 hd (by simp) ma) (a1 a ma) (a2 b mb)) e]
  · rename_i w1 b1 a1 w2 b2 a2
    have e2:b1=b2:=by
     have:=e.2
     cases b1<;>cases b2<;>simp at this ⊢
    rw [ih (sub hd (by simp)) a1 a2 e.1,e2]
end Tre
namespace Wd
open PySem L2 Tre Mth Dj
def Lt2 (e:Nat) (x:Int):Prop:=x.natAbs < 2^e
theorem Lt2.mono {m n:Nat} {x:Int} (h:Lt2 m x) (hn:m≤n):Lt2 n x:=yB h (Nat.pow_le_pow_right (by decide) hn)
theorem Lt2.big {n:Nat} {x:Int} (h:Lt2 n x) (hn:n≤8000):Big x:=h.mono hn
theorem Lt2.div {e:Nat} {x y:Int} (h:Lt2 e x):Lt2 e (x / y):=yG (ux x y) h
theorem Lt2.mul {m n:Nat} {x y:Int} (h1:Lt2 m x) (h2:Lt2 n y):Lt2 (m+n) (x*y):=by
 unfold Lt2 at*
 rw [Int.natAbs_mul,Nat.pow_add]
 exact Nat.mul_lt_mul'' h1 h2
theorem Lt2.add {m:Nat} {x y:Int} (h1:Lt2 m x) (h2:Lt2 m y):Lt2 (m+1) (x+y):=by
 unfold Lt2 at*
 have:=Int.natAbs_add_le x y
 rw [Nat.pow_succ]
 omega
abbrev Fr:=Int×Int
def frT (p:Fr):Tr:= .tup [.int p.1, .int p.2]
def frK (p:Fr):Tk.KT:= .tp [.lf (.inl p.1), .lf (.inl p.2)]
structure Gf (e:Nat) (p:Fr):Prop where
 pos:0 < p.2
 top:Lt2 e p.1
 bot:Lt2 e p.2
theorem Gf.mono {m n:Nat} {p:Fr} (h:Gf m p) (hn:m≤n):Gf n p:=⟨h.pos,h.top.mono hn,h.bot.mono hn⟩
def zero:Fr:=(0,1)
def Gv (p:Fr):Prop:=Gf 200 p∧oz p.1 p.2
theorem uo:Gf 200 zero:=⟨by decide,by show (0:Nat) < 2^200;exact Nat.pow_pos (by decide),by show (1:Nat) < 2^200;decide +kernel⟩
theorem o0:Gv zero:=⟨uo,by decide,by decide⟩
structure Wld where
 fl:Str→Bool
 va:Str→Fr
 ca:List Tk.KT→Fr
structure Wld.Ok (W:Wld):Prop where
 va:∀x,Gv (W.va x)
 ca:∀k,Gv (W.ca k)
mutual
noncomputable def valT (W:Wld):Tr→Fr
 | .tup (_:: .str x::r)=>match r with
  | []=>W.va x
  |t::_=>W.ca [.lf (.inr x), .tp (keyT W t)]
 |_=>zero
noncomputable def keyT (W:Wld):Tr→List Tk.KT
 | .tup ts=>valsT W ts
 |_=> []
noncomputable def valsT (W:Wld):List Tr→List Tk.KT
 | []=> []
 |t::ts=>frK (valT W t)::valsT W ts
end
def Gp (p:Tr):Prop:=∃tm f,p= .tup [tm,frT f]∧Ty .tm tm∧tm.depth≤5∧Gf 603 f
inductive Gw:Tr→Prop
 |fl (x:Str):Gw (.tup [s_ "flag", .str x])
 |mo (ps:List Tr) (f:Fr):ps.length≤3→(∀p∈ps,Gp p)→Gf 900 f→Gw (.tup [s_ "most", .tup ps,frT f])
 |li (t u:Tr):Ty .tm t→Ty .tm u→t.depth≤7→u.depth≤7→Gw (.tup [s_ "like",t,u])
 |no (w:Tr):Gw w→Gw (.tup [s_ "not",w])
 |bo (l:List Tr):l.length≤3→(∀w∈l,Gw w)→Gw (.tup [s_ "both", .tup l])
 |ei (l:List Tr):l.length≤3→(∀w∈l,Gw w)→Gw (.tup [s_ "either", .tup l])
theorem Gw.ty {t:Tr} (h:Gw t):Ty .ws t:=by
 induction h with
 |fl x=>exact .fl x
 |mo ps f _ hp _=>
  refine .mo ps _ (fun p m=> ?_) (.fr _ _)
  obtain ⟨tm,f,rfl,h1,_⟩:=hp p m
  exact .pr _ _ h1 (.fr _ _)
 |li t u h1 h2 _ _=>exact .li t u h1 h2
 |no w _ ih=>exact .no w ih
 |bo l _ _ ih=>exact .bo l ih
 |ei l _ _ ih=>exact .ei l ih
inductive Gl:Tr→Prop
 |mk (t:Tr) (b:Bool):Gw t→Gl (.tup [t, .bl b])
theorem Gl.ty {t:Tr} (h:Gl t):Ty .lt t:=by
 cases h with
 |mk t b h=>exact .lt t b h.ty
end Wd
namespace K05
open PySem L2 Mth
noncomputable def top (i:Nat):Stmt:=PySem.Challenge.pw_smallword_k05_sums_and_wishes_told.main.body.getD i (.Pass ⟨0,0,0,0⟩)
noncomputable abbrev gU:Stmt:=um (top 1) 0
noncomputable abbrev sCd:Stmt:=top 5
noncomputable abbrev sFr:Stmt:=top 6
noncomputable abbrev sIw:Stmt:=top 10
noncomputable abbrev sIto:Stmt:=top 11
noncomputable abbrev sNmQ:Stmt:=top 12
noncomputable abbrev sFrQ:Stmt:=top 13
noncomputable abbrev sTmQ:Stmt:=top 14
noncomputable abbrev sCtQ:Stmt:=top 15
noncomputable abbrev sPrQ:Stmt:=top 17
noncomputable abbrev sSmQ:Stmt:=top 18
noncomputable abbrev sAtQ:Stmt:=top 20
noncomputable abbrev sWsQ:Stmt:=top 21
noncomputable abbrev iF:Stmt:=top 23
noncomputable abbrev cO:Stmt:=top 24
noncomputable abbrev di:Stmt:=top 25
noncomputable abbrev sLow:Stmt:=top 26
noncomputable abbrev f8:Stmt:=top 27
noncomputable abbrev iD:Stmt:=top 28
noncomputable abbrev fb:Stmt:=top 29
noncomputable abbrev f9:Stmt:=top 30
noncomputable abbrev fg:Stmt:=top 31
noncomputable abbrev iB:Stmt:=top 32
noncomputable abbrev iC:Stmt:=top 33
noncomputable abbrev ff:Stmt:=top 34
noncomputable abbrev iH:Stmt:=top 35
noncomputable abbrev iA:Stmt:=top 36
noncomputable abbrev sOdd:Stmt:=top 37
noncomputable abbrev iG:Stmt:=top 38
noncomputable abbrev sLNm:Stmt:=top 39
noncomputable abbrev iE:Stmt:=top 40
noncomputable abbrev sLTm:Stmt:=top 41
noncomputable abbrev sLSq:Stmt:=top 42
noncomputable abbrev sLWq:Stmt:=top 43
noncomputable abbrev fc:Stmt:=top 44
noncomputable abbrev sLaw:Stmt:=top 45
section
variable {P:Program} {w:World} {K:PySem.W.Frag} {mg:Str→Option Value} {base:Heap}
structure Blt (mg:Str→Option Value):Prop where
 ab:mg "abs"=none
 le:mg "len"=none
 ra:mg "range"=none
 isi:mg "isinstance"=none
 tu:mg "tuple"=none
 it:mg "int"=none
 bo:mg "bool"=none
 li:mg "list"=none
 st:mg "str"=none
 al:mg "all"=none
 an:mg "any"=none
 su:mg "sum"=none
 zi:mg "zip"=none
 so:mg "sorted"=none
 ve:mg "ValueError"=none
def spCd:Sp:=fun vs H Q _=>∃(a b:Int),vs= [.int a, .int b]∧Q (.int (Int.gcd a b:Int)) H
theorem scC:az ["one","other"] ["one","other"] (ag sCd):=⟨rfl,rfl,rfl,by decide +kernel,rfl,by decide +kernel,by decide +kernel⟩
theorem uK (a:Int):(if a < 0 then -a else a)=(Int.gcd a 0:Int):=by
 rw [Int.gcd_zero_right]
 split<;>omega
theorem xO {f:Addr} {fd:FuncData} (F:Fun K "common_divisor" "common_divisor" sCd f fd) (B:Blt mg):FnOk P w K mg base CX0 1 f fd ["one","other"] spCd:=by
 refine F.ok scC (fun vs H Q E h=> ?_) (fun cdv A outer s H vs Q E hr h=> ?_)
 · obtain ⟨a,b,rfl,_⟩:=h
   rfl
 · obtain ⟨a,b,rfl,k⟩:=h
   refine ⟨_,ae (jY PassesOwn.never (aE kh (pv 1) ac (ax _)) (ai (vP (i:=0) (j:=1) rfl scC.nd rfl rfl (by decide) rfl rfl (a9 (pv 1) (a9 (aB tR (pv 0) (pv 1)) aa)) rfl)))
    (ai (ak (ao lw rfl B.ab lB (a9 (pv 0) aa)))),?_⟩
   refine jL (fun σ H'=>H'=H∧∃x y:Int,σ= [some (.int x),some (.int y)]∧Int.gcd x y=Int.gcd a b) (fun σ _=>match σ with| [_,some (.int y)]=>y.natAbs|_=>0) ⟨rfl,a,b,rfl,rfl⟩ ?_ ?_
   · rintro σ H' ⟨rfl,x,y,rfl,e⟩
     refine ⟨_,rfl,rfl,_,rfl,?_⟩
     by_cases z:y=0
     · subst z
       rw [decide_eq_true rfl]
       refine iteF ?_
       refine ⟨_,rfl,x,rfl,?_⟩
       rw [uK,e]
       exact k
     · have z':¬(V.int y=V.int 0):=fun q=>z (V.int.inj q)
       rw [decide_eq_false z']
       refine iteT ?_
       refine ⟨_,rfl,_,rfl,_,rfl,x,y,rfl,rfl,z,_,_,rfl,?_⟩
       refine ⟨⟨rfl,y,x.fmod y,rfl,?_⟩,?_⟩
       · rw [rK,e]
       · exact uu z
   · intro σ H' R R' hR h
     obtain ⟨v,e1,e2,q,e3,h⟩:=h
     exact ⟨v,e1,e2,q,e3,hR _ _ h⟩
theorem eX {t b:Int} (h:Big b) (z:b≠0):Big (Int.gcd t b:Int):=by
 have:Int.gcd t b≤b.natAbs:=Int.gcd_le_natAbs_right t (by omega)
 unfold Big at*
 omega
end
end K05
namespace L2
open PySem PySem.Spec PyProof.Rows
section
variable {X:Cx}
def rS0 (f:Str→V):V→List V→Hp→VK→Prop:=fun x vs H Q=>∃z,x= .str z∧vs= []∧Q (f z) H
theorem m9:MtM X "str.isascii" (rS0 fun z=> .bl (Txt.isascii z)):=by
 intro pins s σ H x vs v us Q I rx rv h
 obtain ⟨z,rfl,rfl,q⟩:=h
 obtain ⟨t,rfl⟩:=rx
 cases rv
 exact SC.isascii ⟨.bl _,H,I,rfl,q⟩
end
end L2
namespace Trm
open PySem
inductive Tm where
 |nm (x:Str)
 |ap (f:Str) (ts:List Tm)
def Ltr (c:Nat):Prop:=97≤c∧c≤122
structure Nm (x:Str):Prop where
 pos:0 < x.length
 le:x.length≤8
 ltr:∀c∈x.cps.toList,Ltr c
mutual
noncomputable def Tm.depth:Tm→Nat
 | .nm _=>0
 | .ap _ ts=>Tms.depth ts+1
noncomputable def Tms.depth:List Tm→Nat
 | []=>0
 |t::ts=>max (Tm.depth t) (Tms.depth ts)
end
mutual
noncomputable def Tm.all:Tm→List Tm
 | .nm x=> [.nm x]
 | .ap f ts=>Tms.all ts++ [.ap f ts]
noncomputable def Tms.all:List Tm→List Tm
 | []=> []
 |t::ts=>Tm.all t++Tms.all ts
end
end Trm
namespace L2
open PySem
theorem lE:∀c:Nat,c < 128→(Unicode.isAlpha c=true∧Unicode.isLower c=true∧Unicode.isUpper c=false∧Unicode.isTitle c=false∧(97≤c∧c≤122))∨(Unicode.isAlpha c=true∧Unicode.isLower c=false∧Unicode.isUpper c=true∧¬(97≤c∧c≤122))∨(Unicode.isAlpha c=false∧¬(97≤c∧c≤122)):=by
 decide +kernel
theorem uI {p:Nat→Bool} {a:Array Nat}:a.all p=a.toList.all p:=by simp
theorem uG {p:Nat→Bool} {a:Array Nat}:a.any p=a.toList.any p:=by simp
theorem qZ (x:Str):(Txt.isascii x&& (Txt.isalpha x&&Txt.islower x))=true↔0 < x.length∧∀c∈x.cps.toList,97≤c∧c≤122:=by
 unfold Txt.isascii Txt.isalpha Txt.islower
 simp only [yH,uI,uG,z5,List.any_eq_true,decide_eq_true_eq,Bool.not_eq_true',Bool.or_eq_true]
 constructor
 · rintro ⟨h1,⟨h2,h3⟩,h4,h5⟩
   refine ⟨h2,fun c m=> ?_⟩
   rcases lE c (h1 c m) with ⟨_,_,_,_,k⟩|⟨_,_,k,_⟩|⟨k,_⟩
   · exact k
   · exfalso
     have:(x.cps.toList.any fun c=>Unicode.isUpper c ||Unicode.isTitle c)=true:=List.any_eq_true.mpr ⟨c,m,by rw [k];rfl⟩
     rw [h5] at this
     cases this
   · rw [h3 c m] at k
     cases k
 · rintro ⟨h1,h2⟩
   have asc:∀c∈x.cps.toList,c < 128:=fun c m=>by have:=h2 c m;omega
   have kd:∀c∈x.cps.toList,Unicode.isAlpha c=true∧Unicode.isLower c=true∧Unicode.isUpper c=false∧Unicode.isTitle c=false:=fun c m=>by
    rcases lE c (asc c m) with ⟨a,b,d,e,_⟩|⟨_,_,_,k⟩|⟨_,k⟩
    · exact ⟨a,b,d,e⟩
    · exact absurd (h2 c m) k
    · exact absurd (h2 c m) k
   refine ⟨asc,⟨h1,fun c m=>(kd c m).1⟩,?_,?_⟩
   · cases e:x.cps.toList with
     |nil=>
      have:x.length=0:=by
       show x.cps.size=0
       rw [←yy,e]
       rfl
      omega
     |cons c l=>exact ⟨c,yn,(kd c (by rw [e];exact yn)).2.1⟩
   · cases e:(x.cps.toList.any fun c=>Unicode.isUpper c ||Unicode.isTitle c) with
     |false=>rfl
     |true=>
      obtain ⟨c,m,k⟩:=List.any_eq_true.mp e
      obtain ⟨_,_,k1,k2⟩:=kd c m
      rw [k1,k2] at k
      cases k
section
variable {X:Cx}
def rBs (g:Str→Bool):V→List V→Hp→VK→Prop:=fun x vs H Q=>∃z,x= .str z∧vs= []∧Q (.bl (g z)) H
theorem mf:MtM X "str.isalpha" (rBs Txt.isalpha):=by
 intro pins s σ H x vs v us Q I rx rv h
 obtain ⟨z,rfl,rfl,q⟩:=h
 obtain ⟨t,rfl⟩:=rx
 cases rv.zero
 exact SC.isalpha ⟨.bl _,H,I,rfl,q⟩
theorem m8:MtM X "str.islower" (rBs Txt.islower):=by
 intro pins s σ H x vs v us Q I rx rv h
 obtain ⟨z,rfl,rfl,q⟩:=h
 obtain ⟨t,rfl⟩:=rx
 cases rv.zero
 exact SC.islower ⟨.bl _,H,I,rfl,q⟩
end
end L2
namespace EqD
open PySem PySem.Spec PyProof.Rows SeqAt
theorem uy (d:Addr) (o:Obj) (es:Array DictEntry) (ep:Nat) (hc:o.cls= .type "dict") (hd:o.data= .dict es ep) (z:Str) (k:Tok):
 Meets (Builtin.«dict.__eq__» ⟨[.ref d, .str z k],[]⟩) (fun _ R s=>s.heap.get? d=some o∧R (.ok (.ret .notImplemented)) s):=
 .of_wp fun prog w A R s h=>by
  obtain ⟨hp,g,dr,tk,os⟩:=s
  obtain ⟨ho,h⟩:=h
  obtain ⟨cls,dd,data,sl⟩:=o
  simp only at hc hd
  subst hc hd
  have f1:=F.sub_str_dict
  wp_walk using wpAny_loadPart' ho,wpAny_load ho
  exact ⟨_,rfl,h⟩
theorem vE (d:Addr) (o:Obj) (es:Array DictEntry) (ep:Nat) (hc:o.cls= .type "dict") (hd:o.data= .dict es ep) (z:Str) (k:Tok):
 Meets (Builtin.«str.__eq__» ⟨[.str z k, .ref d],[]⟩) (fun _ R s=>s.heap.get? d=some o∧R (.ok (.ret .notImplemented)) s):=
 .of_wp fun prog w A R s h=>by
  obtain ⟨hp,g,dr,tk,os⟩:=s
  obtain ⟨ho,h⟩:=h
  obtain ⟨cls,dd,data,sl⟩:=o
  simp only at hc hd
  subst hc hd
  wp_walk using wpAny_loadPart' ho,wpAny_load ho
  exact ⟨_,rfl,h⟩
open PySem PySem.Spec PyProof.Rows SeqAt L2
theorem xk {A:Around} {s:Shared} {d:Addr} {o:Obj} {es:Array DictEntry} {ep:Nat} {z:Str} {k:Tok} (ho:s.heap.get? d=some o) (hc:o.cls= .type "dict") (hd:o.data= .dict es ep) (hu:A.units < cLine):RcAt A s (.ref d) (.str z k) false:=by
 intro prog w E Q h
 have T1:s.TypeIs (.ref d) "dict":=⟨o,ho,hc⟩
 have T2:s.TypeIs (.str z k) "str":=typeIs_str s z k
 refine rc_eq_decline_or (k:=false) T1 T2 (by decide) F.sub_str_dict F.slot_dict_eq F.slot_str_eq_refl (fun _ q=> ?_) (fun _ q=> ?_) (fun _ q=> ?_) (.inr hu) h
 · exact call_meets F.slot_dict_eq T1 F.entry_dict_eq (F.args_dict_eq_2 _ _) (uy d o es ep hc hd z k) ⟨ho,q⟩
 · exact call_meets F.slot_str_eq_refl T2 F.entry_str_eq (F.args_str_eq_2 _ _) (vE d o es ep hc hd z k) ⟨ho,q⟩
 · exact wpAny_of_eq rfl q
inductive Pl where
 |non
 |bl (b:Bool)
 |int (i:Int)
 |str (x:Str)
 |tup (ts:List Pl)
 |lst
 |dct
mutual
def PlAt (H:Hp):V→Pl→Prop
 |v, .non=>v= .non
 |v, .bl b=>v= .bl b
 |v, .int i=>v= .int i
 |v, .str x=>v= .str x
 |v, .tup ts=>∃r vs,v= .ref r∧H r=some (.tup vs)∧PlsAt H vs ts
 |v, .lst=>∃r xs,v= .ref r∧H r=some (.lst xs)
 |v, .dct=>∃r kvs,v= .ref r∧H r=some (.dK kvs)
def PlsAt (H:Hp):List V→List Pl→Prop
 |vs,[]=>vs= []
 |vs,t::ts=>∃v r,vs=v::r∧PlAt H v t∧PlsAt H r ts
end
structure Ke (H H':Hp):Prop where
 tup:∀a xs,H a=some (.tup xs)→H' a=some (.tup xs)
 lst:∀a xs,H a=some (.lst xs)→∃ys,H' a=some (.lst ys)
 dct:∀a xs,H a=some (.dK xs)→∃ys,H' a=some (.dK ys)
theorem Ke.refl (H:Hp):Ke H H:=⟨fun _ _ e=>e,fun _ xs e=>⟨xs,e⟩,fun _ xs e=>⟨xs,e⟩⟩
theorem Ke.trans {H H1 H2:Hp} (a:Ke H H1) (b:Ke H1 H2):Ke H H2:=⟨fun x o e=>b.tup x o (a.tup x o e),fun x o e=>by
 obtain ⟨ys,e1⟩:=a.lst x o e
 exact b.lst x ys e1,fun x o e=>by
 obtain ⟨ys,e1⟩:=a.dct x o e
 exact b.dct x ys e1⟩
theorem Ke.of_same {H H':Hp} (s:Same H H'):Ke H H':=⟨fun a xs e=>s a _ e,fun a xs e=>⟨xs,s a _ e⟩,fun a xs e=>⟨xs,s a _ e⟩⟩
mutual
theorem PlAt.mono {H H':Hp} (k:Ke H H'):∀ {v:V} {t:Pl},PlAt H v t→PlAt H' v t
 |v, .non,h=>by unfold PlAt at h ⊢;exact h
 |v, .bl b,h=>by unfold PlAt at h ⊢;exact h
 |v, .int i,h=>by unfold PlAt at h ⊢;exact h
 |v, .str x,h=>by unfold PlAt at h ⊢;exact h
 |v, .lst,h=>by
  unfold PlAt at h ⊢
  obtain ⟨r,xs,e,h⟩:=h
  obtain ⟨ys,h'⟩:=k.lst r xs h
  exact ⟨r,ys,e,h'⟩
 |v, .dct,h=>by
  unfold PlAt at h ⊢
  obtain ⟨r,xs,e,h⟩:=h
  obtain ⟨ys,h'⟩:=k.dct r xs h
  exact ⟨r,ys,e,h'⟩
 |v, .tup ts,h=>by
  unfold PlAt at h ⊢
  obtain ⟨r,vs,e,h1,h2⟩:=h
  exact ⟨r,vs,e,k.tup _ _ h1,PlsAt.mono k h2⟩
theorem PlsAt.mono {H H':Hp} (k:Ke H H'):∀ {vs:List V} {ts:List Pl},PlsAt H vs ts→PlsAt H' vs ts
 |vs,[],h=>by unfold PlsAt at h ⊢;exact h
 |vs,t::ts,h=>by
  unfold PlsAt at h ⊢
  obtain ⟨v,r,e,h1,h2⟩:=h
  exact ⟨v,r,e,PlAt.mono k h1,PlsAt.mono k h2⟩
end
theorem PlsAt.nil {H:Hp}:PlsAt H [] []:=by unfold PlsAt;rfl
theorem PlsAt.cons {H:Hp} {v:V} {t:Pl} {vs:List V} {ts:List Pl} (h:PlAt H v t) (r:PlsAt H vs ts):PlsAt H (v::vs) (t::ts):=by
 unfold PlsAt
 exact ⟨v,vs,rfl,h,r⟩
theorem PlsAt.inv {H:Hp} {t:Pl} {vs:List V} {ts:List Pl} (h:PlsAt H vs (t::ts)):∃v r,vs=v::r∧PlAt H v t∧PlsAt H r ts:=by
 unfold PlsAt at h
 exact h
theorem PlsAt.len {H:Hp}:∀ {vs:List V} {ts:List Pl},PlsAt H vs ts→vs.length=ts.length
 |vs,[],h=>by
  unfold PlsAt at h
  rw [h]
  rfl
 |vs,t::ts,h=>by
  obtain ⟨v,r,e,_,h2⟩:=h.inv
  rw [e,yC,yC,h2.len]
theorem PlsAt.app {H:Hp} {ws:List V} {us:List Pl} (b:PlsAt H ws us):∀ {vs:List V} {ts:List Pl},PlsAt H vs ts→PlsAt H (vs++ws) (ts++us)
 |vs,[],h=>by
  unfold PlsAt at h
  subst h
  exact b
 |vs,t::ts,h=>by
  obtain ⟨v,r,e,h1,h2⟩:=h.inv
  subst e
  exact .cons h1 (PlsAt.app b h2)
theorem PlsAt.get' {H:Hp}:∀ {vs:List V} {ts:List Pl} {i:Nat} {v:V},PlsAt H vs ts→vs[i]?=some v→∃t,ts[i]?=some t∧PlAt H v t
 |vs,[],i,v,h,e=>by
  unfold PlsAt at h
  subst h
  simp at e
 |vs,a::ts,0,v,h,e=>by
  obtain ⟨u,r,rfl,h1,h2⟩:=h.inv
  simp at e
  subst e
  exact ⟨a,rfl,h1⟩
 |vs,a::ts,i+1,v,h,e=>by
  obtain ⟨u,r,rfl,h1,h2⟩:=h.inv
  obtain ⟨t,e1,e2⟩:=h2.get' (i:=i) (by simpa using e)
  exact ⟨t,by simpa using e1,e2⟩
def isS (z:Str):Pl→Bool
 | .str x=>x==z
 |_=>false
def rEqS:R2:=fun x y H Q=>∃p z,PlAt H x p∧y= .str z∧Q (.bl (isS z p)) H
theorem cW {X:Cx} (hu:X.A.units < cLine):OpR X (compareOp .Eq) rEqS:=by
 intro pins s σ H x y v u Q I rx ry h
 obtain ⟨p,z,hx,rfl,q⟩:=h
 obtain ⟨t,rfl⟩:=ry
 cases p with
 |non=>
  unfold PlAt at hx
  subst hx
  cases (show v=Value.none from rx)
  exact RcAt.none_str z t X.prog X.w _ _ ⟨.bl _,H,I,rfl,q⟩
 |bl b=>
  unfold PlAt at hx
  subst hx
  cases (show v=Value.bool b from rx)
  exact RcAt.bool_str b z t X.prog X.w _ _ ⟨.bl _,H,I,rfl,q⟩
 |int i=>
  unfold PlAt at hx
  subst hx
  obtain ⟨t0,rfl⟩:=rx
  exact RcAt.int_str i t0 z t X.prog X.w _ _ ⟨.bl _,H,I,rfl,q⟩
 |str w=>
  unfold PlAt at hx
  subst hx
  obtain ⟨t0,rfl⟩:=rx
  exact RcAt.str_str w t0 z t X.prog X.w _ _ ⟨.bl _,H,I,rfl,q⟩
 |tup ts=>
  unfold PlAt at hx
  obtain ⟨r,vs,rfl,g,_⟩:=hx
  cases rx
  obtain ⟨us,_,p1,_⟩:=I.tuple (SqT.of g)
  exact RcAt.tuple_str z t p1 hu X.prog X.w _ _ ⟨.bl _,H,I,rfl,q⟩
 |lst=>
  unfold PlAt at hx
  obtain ⟨r,vs,rfl,g⟩:=hx
  cases rx
  obtain ⟨us,_,p1,_⟩:=I.list (SqL.of g)
  exact RcAt.list_str z t p1.isList hu X.prog X.w _ _ ⟨.bl _,H,I,rfl,q⟩
 |dct=>
  unfold PlAt at hx
  obtain ⟨r,kvs,rfl,g⟩:=hx
  cases rx
  obtain ⟨_,_,vs,r',ob,es,ep,e,c⟩:=(show ObjOk X.prog X.w H s.heap r (.dK kvs) from I.hok r _ g)
  exact xk e c.1.1 c.2.1 hu X.prog X.w _ _ ⟨.bl _,H,I,rfl,q⟩
end EqD
namespace L2
open PySem PySem.Spec PyProof.Rows
section
variable {X:Cx}
theorem gI:∀ {ys:List Str} {us:List Value},Vals (ys.map V.str) us→StrsAre us ys
 | [],_,r=>by cases r;exact .nil
 |y::ys,_,r=>by
  rw [yD] at r
  cases r with
  |cons r1 r2=>
   obtain ⟨t,rfl⟩:=r1
   exact .cons y t (gI r2)
def xp (K:PySem.W.Frag):V→List V→Hp→VK→Prop:=fun x vs H Q=>∃(sep:Str) (l:Addr) (ys:List Str),x= .str sep∧vs= [.ref l]∧SqL K H l (ys.map V.str)∧(ys.map (·.length)).sum+ys.length*sep.length≤16777216∧Q (.str (Txt.join sep ys)) H
theorem u9:MtM X "str.join" (xp X.K):=by
 intro pins s σ H x vs v us Q I rx rv h
 obtain ⟨sep,l,ys,rfl,rfl,hl,hz,q⟩:=h
 obtain ⟨t,rfl⟩:=rx
 obtain ⟨u,rfl,ru⟩:=rv.one
 cases ru
 obtain ⟨its,r,p,_⟩:=I.list hl
 exact PyProof.Rows.join_list p.isList (by simpa using gI r) hz fun t' k=>⟨.str _,H,I.tok k,⟨_,rfl⟩,q⟩
def rSlS:V→Option Int→Option Int→Hp→VK→Prop:=fun x lo hi H Q=>∃(z:Str),x= .str z∧z.length≤sizeLine∧Q (.str (Txt.slice z lo hi)) H
theorem gR:SlR X rSlS:=by
 intro pins s σ H x v vl vu lo hi sl Q I rx hs pl pu h
 obtain ⟨z,rfl,hz,q⟩:=h
 obtain ⟨t,rfl⟩:=rx
 obtain ⟨o,ho,hc,hd⟩:=hs
 refine ⟨"str",_,PySem.F.slot_str_getitem.lookup,typeIs_str _ _ _,?_⟩
 cases pl with
 |none=>
  cases pu with
  |none=>exact wpAny_getItem_str_slice (l:=none) (u:=none) (st:=none) ⟨o,ho,hc,hd⟩ rfl (post_val_or_str ⟨yU (Txt.slice_le z none none) hz,fun t' k=>⟨.str _,H,I.tok k,⟨_,rfl⟩,q⟩⟩)
  |int j tj=>exact wpAny_getItem_str_slice (l:=none) (u:=some (j,tj)) (st:=none) ⟨o,ho,hc,hd⟩ rfl (post_val_or_str ⟨yU (Txt.slice_le z none (some j)) hz,fun t' k=>⟨.str _,H,I.tok k,⟨_,rfl⟩,q⟩⟩)
 |int i ti=>
  cases pu with
  |none=>exact wpAny_getItem_str_slice (l:=some (i,ti)) (u:=none) (st:=none) ⟨o,ho,hc,hd⟩ rfl (post_val_or_str ⟨yU (Txt.slice_le z (some i) none) hz,fun t' k=>⟨.str _,H,I.tok k,⟨_,rfl⟩,q⟩⟩)
  |int j tj=>exact wpAny_getItem_str_slice (l:=some (i,ti)) (u:=some (j,tj)) (st:=none) ⟨o,ho,hc,hd⟩ rfl (post_val_or_str ⟨yU (Txt.slice_le z (some i) (some j)) hz,fun t' k=>⟨.str _,H,I.tok k,⟨_,rfl⟩,q⟩⟩)
end
section
variable {X:Cx}
def vN:R2:=fun x y H Q=>∃l b xs,x= .ref l∧y= .ref b∧H l=some (.lst xs)∧H b=some (.lst [])∧Q (.bl (!xs.isEmpty)) H
theorem kg (hu:X.A.units+1 < cLine):OpR X (compareOp .NotEq) vN:=by
 intro pins s σ H x y v u Q I rx ry h
 obtain ⟨l,b,xs,rfl,rfl,hH,hB,q⟩:=h
 cases rx
 cases ry
 obtain ⟨its,r,pl,_⟩:=I.list (SqL.of hH)
 obtain ⟨its2,r2,pl2,_⟩:=I.list (SqL.of hB)
 cases r2
 have fin:∀k:Bool,k= !xs.isEmpty→EP X pins σ Q (.bool k) s:=fun k e=>by subst e;exact ⟨.bl _,H,I,rfl,q⟩
 cases r with
 |nil=>exact SeqAt.RcNeAt.lists (e:=fun _=>true) pl.isList pl2.isList rfl (by omega) (fun j h1 _=>absurd h1 (by simp)) X.prog X.w X.xe _ (fin _ rfl)
 |cons r1 r2=>exact SeqAt.RcNeAt.lists_lengths pl.isList pl2.isList (by simp) (by omega) X.prog X.w X.xe _ (fin _ rfl)
end
end L2
namespace K05
open PySem L2 Mth EqD
noncomputable def tyP:Pl→Value
 | .non=> .type "NoneType"
 | .bl _=> .type "bool"
 | .int _=> .type "int"
 | .str _=> .type "str"
 | .tup _=> .type "tuple"
 | .lst=> .type "list"
 | .dct=> .type "dict"
theorem bw {K:PySem.W.Frag} {H:Hp} {x:V} {p:Pl} (h:PlAt H x p):TyX K H x (tyP p):=by
 cases p with
 |non=>unfold PlAt at h;subst h;exact .of .non
 |bl b=>unfold PlAt at h;subst h;exact .of (.bl b)
 |int i=>unfold PlAt at h;subst h;exact .of (.int i)
 |str z=>unfold PlAt at h;subst h;exact .of (.str z)
 |tup ts=>unfold PlAt at h;obtain ⟨r,vs,rfl,g,_⟩:=h;exact .of (.tup g)
 |lst=>unfold PlAt at h;obtain ⟨r,vs,rfl,g⟩:=h;exact .of (.lst g)
 |dct=>unfold PlAt at h;obtain ⟨r,vs,rfl,g⟩:=h;exact .of (.dK g)
def isInt:Pl→Bool
 | .int _=>true
 | .bl _=>true
 |_=>false
def isBl:Pl→Bool
 | .bl _=>true
 |_=>false
def i3:Pl→Bool
 | .str _=>true
 |_=>false
def bV:Pl→Bool
 | .tup _=>true
 |_=>false
theorem jy (K:PySem.W.Frag) (p:Pl):PySem.W.kitOne K (tyP p) (.type "int")=some (isInt p):=by cases p<;>kernel_rfl
theorem rB (K:PySem.W.Frag) (p:Pl):PySem.W.kitOne K (tyP p) (.type "bool")=some (isBl p):=by cases p<;>kernel_rfl
theorem gj (K:PySem.W.Frag) (p:Pl):PySem.W.kitOne K (tyP p) (.type "str")=some (i3 p):=by cases p<;>kernel_rfl
theorem bz (K:PySem.W.Frag) (p:Pl):PySem.W.kitOne K (tyP p) (.type "tuple")=some (bV p):=by cases p<;>kernel_rfl
def whB (p:Pl):Bool:=isInt p&& !isBl p
noncomputable def toB (n:Int):Pl→Bool
 | .tup ts=>decide ((ts.length:Int)=n)
 |_=>false
noncomputable def nmB:Pl→Bool
 | .str x=> !decide (8 < (x.length:Int))&& (Txt.isascii x&& (Txt.isalpha x&&Txt.islower x))
 |_=>false
section
variable {P:Program} {w:World} {K:PySem.W.Frag} {mg:Str→Option Value} {base:Heap}
def spIw:Sp:=fun vs H Q _=>∃(v:V) (p:Pl),vs= [v]∧PlAt H v p∧Q (.bl (whB p)) H
theorem scIw:az ["thing"] ["thing"] (ag sIw):=⟨rfl,rfl,rfl,by decide +kernel,rfl,by decide +kernel,by decide +kernel⟩
theorem xK {f:Addr} {fd:FuncData} (F:Fun K "is_whole" "is_whole" sIw f fd) (B:Blt mg):FnOk P w K mg base CX0 1 f fd ["thing"] spIw:=by
 refine F.ok scIw (fun vs H Q E h=> ?_) (fun cdv A outer s H vs Q E hr h=> ?_)
 · obtain ⟨v,p,rfl,_⟩:=h
   rfl
 obtain ⟨v,p,rfl,hv,k⟩:=h
 refine ⟨_,ai (ak (b7 (ao (r:=rIsi K) aN rfl B.isi am (a9 (pv 0) (a9 (aT (v:= .ty "int") rfl B.it PyProof.Rows.boot_int rfl) aa))) (bn (qI (ao (r:=rIsi K) aN rfl B.isi am (a9 (pv 0) (a9 (aT (v:= .ty "bool") rfl B.bo PyProof.Rows.boot_bool rfl) aa))))))),?_⟩
 refine ⟨_,rfl,v, .ty "int",_,isInt p,rfl,bw hv, .inl ⟨rfl,jy K p⟩,_,rfl,?_⟩
 cases e:isInt p with
 |false=>
  refine iteF ?_
  have:whB p=false:=by unfold whB;rw [e];rfl
  rw [this] at k
  exact k
 |true=>
  refine iteT ?_
  refine ⟨_,rfl,v, .ty "bool",_,isBl p,rfl,bw hv, .inl ⟨rfl,rB K p⟩,_,rfl,?_⟩
  have:whB p= !isBl p:=by unfold whB;rw [e];rfl
  rw [this] at k
  exact k
def spTo:Sp:=fun vs H Q _=>∃(v:V) (p:Pl) (n:Int),vs= [v, .int n]∧PlAt H v p∧Q (.bl (toB n p)) H
theorem scTo:az ["thing","count"] ["thing","count"] (ag sIto):=⟨rfl,rfl,rfl,by decide +kernel,rfl,by decide +kernel,by decide +kernel⟩
theorem xC {f:Addr} {fd:FuncData} (F:Fun K "is_tuple_of" "is_tuple_of" sIto f fd) (B:Blt mg):FnOk P w K mg base CX0 1 f fd ["thing","count"] spTo:=by
 refine F.ok scTo (fun vs H Q E h=> ?_) (fun cdv A outer s H vs Q E hr h=> ?_)
 · obtain ⟨v,p,n,rfl,_⟩:=h
   rfl
 obtain ⟨v,p,n,rfl,hv,k⟩:=h
 refine ⟨_,ai (ak (b7 (ao (r:=rIsi K) aN rfl B.isi am (a9 (pv 0) (a9 (aT (v:= .ty "tuple") rfl B.tu PyProof.Rows.boot_tuple rfl) aa))) (bn (aY cf (ao aU rfl B.le PySem.boot_len (a9 (pv 0) aa)) (pv 1) (ax _))))),?_⟩
 refine ⟨_,rfl,v, .ty "tuple",_,bV p,rfl,bw hv, .inl ⟨rfl,bz K p⟩,_,rfl,?_⟩
 cases p with
 |tup ts=>
  unfold PlAt at hv
  obtain ⟨r,vs,rfl,g,hT⟩:=hv
  have tl:=hT.len
  refine iteT ?_
  refine ⟨_,rfl,r,vs,rfl, .inr (SqT.of g),_,rfl,rfl,?_⟩
  have e:decide (V.int (vs.length:Int)=V.int n)=toB n (.tup ts):=by
   show _=decide ((ts.length:Int)=n)
   rw [tl]
   by_cases z:(ts.length:Int)=n
   · rw [decide_eq_true z,decide_eq_true (congrArg V.int z)]
   · rw [decide_eq_false z,decide_eq_false (fun q=>z (V.int.inj q))]
  rw [e]
  exact k
 |non=>exact iteF k
 |bl b=>exact iteF k
 |int i=>exact iteF k
 |str z=>exact iteF k
 |lst=>exact iteF k
 |dct=>exact iteF k
def spNm:Sp:=fun vs H Q _=>∃(v:V) (p:Pl),vs= [v]∧PlAt H v p∧(∀x,p= .str x→x.length≤1000)∧Q (.bl (nmB p)) H
theorem scNQ:az ["thing"] ["thing"] (ag sNmQ):=⟨rfl,rfl,rfl,by decide +kernel,rfl,by decide +kernel,by decide +kernel⟩
theorem xG {f:Addr} {fd:FuncData} {tk:Tok} (F:Fun K "is_name" "is_name" sNmQ f fd) (B:Blt mg) (mL:mg "MOST_LETTERS"=some (.int 8 tk)):FnOk P w K mg base CX0 1 f fd ["thing"] spNm:=by
 refine F.ok scNQ (fun vs H Q E h=> ?_) (fun cdv A outer s H vs Q E hr h=> ?_)
 · obtain ⟨v,p,rfl,_⟩:=h
   rfl
 obtain ⟨v,p,rfl,hv,hsm,k⟩:=h
 refine ⟨_,ae (aM (PW.pt (bQ (aS (aJ (ao (r:=rIsi K) aN rfl B.isi am (a9 (pv 0) (a9 (aT (v:= .ty "str") rfl B.st PyProof.Rows.boot_str rfl) aa))))) (bK (aE iK (ao df rfl B.le PySem.boot_len (a9 (pv 0) aa)) (jh (v:= .int 8) rfl mL ⟨_,rfl⟩) (ax _))))) (ai (ak bR)) aw)
  (ai (ak (b7 (ji PySem.F.plainAttrs_str PySem.F.slot_str_isascii PySem.F.type_str_isascii m9 (pv 0)) (b7 (ji PySem.F.plainAttrs_str PySem.F.slot_str_isalpha PySem.F.type_str_isalpha mf (pv 0)) (bn (ji PySem.F.plainAttrs_str PySem.F.slot_str_islower PySem.F.type_str_islower m8 (pv 0))))))),?_⟩
 refine ⟨_,rfl,v, .ty "str",_,i3 p,rfl,bw hv, .inl ⟨rfl,gj K p⟩,_,rfl,?_⟩
 cases p with
 |str x=>
  unfold PlAt at hv
  subst hv
  refine iteF ?_
  refine ⟨_,rfl,x,rfl,yU (hsm x rfl) (by decide +kernel),_,8,rfl,rfl,_,rfl,?_⟩
  by_cases z:(8:Int) < (x.length:Int)
  · rw [decide_eq_true z]
    refine iteT ?_
    have e:nmB (.str x)=false:=by
     show (!decide _&&_)=false
     rw [decide_eq_true z]
     rfl
    rw [e] at k
    exact k
  · rw [decide_eq_false z]
    refine iteF ?_
    have e:nmB (.str x)=(Txt.isascii x&& (Txt.isalpha x&&Txt.islower x)):=by
     show (!decide _&&_)=_
     rw [decide_eq_false z]
     rfl
    rw [e] at k
    refine ⟨_,rfl,rfl,x,rfl,rfl,_,rfl,?_⟩
    cases e1:Txt.isascii x with
    |false=>
     rw [e1] at k
     exact iteF k
    |true=>
     rw [e1] at k
     refine iteT ⟨_,rfl,rfl,x,rfl,rfl,_,rfl,?_⟩
     cases e2:Txt.isalpha x with
     |false=>
      rw [e2] at k
      exact iteF k
     |true=>
      rw [e2] at k
      exact iteT ⟨_,rfl,rfl,x,rfl,rfl,k⟩
 |non=>exact iteT k
 |bl b=>exact iteT k
 |int i=>exact iteT k
 |tup ts=>exact iteT k
 |lst=>exact iteT k
 |dct=>exact iteT k
mutual
noncomputable def tmB:Nat→Pl→Bool
 |0,_=>false
 |n+1, .tup ts=>match ts with
  | [k,x]=>isS "name" k&&nmB x
  | [k,f,x]=>isS "call" k&& (nmB f&&ctB n x)
  |_=>false
 |_+1,_=>false
noncomputable def ctB:Nat→Pl→Bool
 |n, .tup ts=>decide (1≤(ts.length:Int))&& (decide ((ts.length:Int)≤3)&&tmsB n ts)
 |_,_=>false
noncomputable def tmsB:Nat→List Pl→Bool
 |_,[]=>true
 |n,t::ts=>tmB n t&&tmsB n ts
end
end
end K05
namespace L2
open PySem PySem.Spec PyProof.Rows
def jK (J:It) (D:Addr) (tc:TT) (te:TE) (rest:L2.St) (Q:VK) (H1:Hp):Prop:=
 ∃W:Nat→Nat→List V→Hp→Prop,(∃m,W 0 m [] (upd H1 D (.lst [])))∧∀i m acc H2,W i m acc H2→
  (J.stop i H2∧Q (.ref D) H2)∨
  (J.go i H2∧∀x H3,J.yld i H2 x H3→dn 0 x (none::rest) H3 fun σ4 H4=>Ext (none::rest) σ4∧tc σ4 H4 fun b H5=>if b=true then te σ4 H5 fun v H6=>H6 D=some (.lst acc)∧acc.length < sizeLine∧∃m',m' < m∧W (i+1) m' (acc++ [v]) (upd H6 D (.lst (acc++ [v])))
   else∃m',m' < m∧W (i+1) m' acc H5)
theorem cN {mp:List (Option Nat)} {wi:TI} {tc:TT} {te:TE} {σ rest:L2.St} {H:Hp} {Q:VK} (e:subS mp σ=none::rest) (h:wi σ H fun J H1=>∀D,H1 D=none→jK J D tc te rest Q H1):iy mp wi (dn 0) tc te σ H Q:=by
 unfold iy
 rw [e]
 exact h
def CompS (n i:Nat) (acc:List V) (Pv:Nat→List V→Hp→Prop):Hp→Prop:=fun H5=>∃m',m' < n - i∧(m'=n - (i+1)∧i+1≤n∧Pv (i+1) acc H5)
theorem CompS.mk {n i:Nat} {acc:List V} {Pv:Nat→List V→Hp→Prop} {H5:Hp} (hi:i < n) (h:Pv (i+1) acc H5):CompS n i acc Pv H5:=⟨n - (i+1),by omega,rfl,hi,h⟩
theorem ic {K:PySem.W.Frag} {a D:Addr} {xs:List V} {tc:TT} {te:TE} {rest:L2.St} {Q:VK} {H1:Hp} (Pv:Nat→List V→Hp→Prop) (h0:Pv 0 [] (upd H1 D (.lst [])))
 (hl:∀i acc H,Pv i acc H→SqL K H a xs)
 (hs:∀i x acc H,i < xs.length→xs[i]?=some x→Pv i acc H→tc (some x::rest) H fun b H5=>if b=true then te (some x::rest) H5 (CompN xs.length i D acc Pv) else CompS xs.length i acc Pv H5)
 (hd:∀acc H,Pv xs.length acc H→Q (.ref D) H):jK (Itl K a) D tc te rest Q H1:=by
 refine ⟨fun i m acc H=>m=xs.length - i∧i≤xs.length∧Pv i acc H,⟨xs.length,by simp,yO _,h0⟩,?_⟩
 rintro i m acc H ⟨rfl,hi,p⟩
 by_cases hlt:i < xs.length
 · refine .inr ⟨⟨xs,xs[i],hl i acc H p,by simp [hlt]⟩,fun x H' y=>⟨ext1,?_⟩⟩
   obtain ⟨e,y⟩:=y
   subst e
   exact hs i x acc _ hlt (y xs (hl i acc _ p)) p
 · have e:i=xs.length:=by omega
   subst e
   exact .inl ⟨⟨xs,hl _ acc H p,yl _⟩,hd acc H p⟩
end L2
namespace K05
open PySem L2 Mth EqD
mutual
noncomputable def pdep:Pl→Nat
 | .tup ts=>psdep ts+1
 |_=>0
noncomputable def psdep:List Pl→Nat
 | []=>0
 |t::ts=>max (pdep t) (psdep ts)
end
mutual
def Sm:Pl→Prop
 | .str x=>x.length≤1000
 | .tup ts=>ts.length≤1000∧Sms ts
 |_=>True
def Sms:List Pl→Prop
 | []=>True
 |t::ts=>Sm t∧Sms ts
end
theorem qc:∀ {ts:List Pl} {t:Pl},Sms ts→t∈ts→Sm t
 |a::ts,t,h,m=>by
  unfold Sms at h
  rcases yk.mp m with rfl|m
  · exact h.1
  · exact qc h.2 m
theorem eU:∀ {ts:List Pl} {t:Pl},t∈ts→pdep t≤psdep ts
 |a::ts,t,m=>by
  unfold psdep
  rcases yk.mp m with rfl|m
  · omega
  · have:=eU m
    omega
theorem qb {p:Pl} (h:Sm p):∀x,p= .str x→x.length≤1000:=fun x e=>by
 subst e
 unfold Sm at h
 exact h
theorem fX (n:Nat):∀ts:List Pl,tmsB n ts=ts.all (tmB n)
 | []=>by rw [tmsB];rfl
 |t::ts=>by rw [tmsB,fX n ts,List.all_cons]
theorem fK (p:Pl):(∃a b,p= .tup [a,b])∨(∃a b c,p= .tup [a,b,c])∨(toB 2 p=false∧toB 3 p=false∧∀n,tmB (n+1) p=false):=by
 cases p with
 |tup ts=>
  match ts with
  | []=>exact .inr (.inr ⟨rfl,rfl,fun n=>by simp [tmB]⟩)
  | [a]=>exact .inr (.inr ⟨rfl,rfl,fun n=>by simp [tmB]⟩)
  | [a,b]=>exact .inl ⟨a,b,rfl⟩
  | [a,b,c]=>exact .inr (.inl ⟨a,b,c,rfl⟩)
  |a::b::c::d::l=>
   have len:((a::b::c::d::l).length:Int)=(l.length:Int)+4:=by simp;omega
   refine .inr (.inr ⟨?_,?_,fun n=>by simp [tmB]⟩)
   · show decide (((a::b::c::d::l).length:Int)=2)=false
     exact decide_eq_false (by omega)
   · show decide (((a::b::c::d::l).length:Int)=3)=false
     exact decide_eq_false (by omega)
 |non=>exact .inr (.inr ⟨rfl,rfl,fun n=>by rw [tmB];intro ts h;cases h⟩)
 |bl b=>exact .inr (.inr ⟨rfl,rfl,fun n=>by rw [tmB];intro ts h;cases h⟩)
 |int i=>exact .inr (.inr ⟨rfl,rfl,fun n=>by rw [tmB];intro ts h;cases h⟩)
 |str z=>exact .inr (.inr ⟨rfl,rfl,fun n=>by rw [tmB];intro ts h;cases h⟩)
 |lst=>exact .inr (.inr ⟨rfl,rfl,fun n=>by rw [tmB];intro ts h;cases h⟩)
 |dct=>exact .inr (.inr ⟨rfl,rfl,fun n=>by rw [tmB];intro ts h;cases h⟩)
theorem pl2 {H:Hp} {v:V} {a b:Pl} (h:PlAt H v (.tup [a,b])):∃r x y,v= .ref r∧H r=some (.tup [x,y])∧PlAt H x a∧PlAt H y b:=by
 unfold PlAt at h
 obtain ⟨r,vs,rfl,g,h⟩:=h
 obtain ⟨x,r1,rfl,h1,h⟩:=h.inv
 obtain ⟨y,r2,rfl,h2,h⟩:=h.inv
 unfold PlsAt at h
 subst h
 exact ⟨r,x,y,rfl,g,h1,h2⟩
theorem pl3 {H:Hp} {v:V} {a b c:Pl} (h:PlAt H v (.tup [a,b,c])):∃r x y z,v= .ref r∧H r=some (.tup [x,y,z])∧PlAt H x a∧PlAt H y b∧PlAt H z c:=by
 unfold PlAt at h
 obtain ⟨r,vs,rfl,g,h⟩:=h
 obtain ⟨x,r1,rfl,h1,h⟩:=h.inv
 obtain ⟨y,r2,rfl,h2,h⟩:=h.inv
 obtain ⟨z,r3,rfl,h3,h⟩:=h.inv
 unfold PlsAt at h
 subst h
 exact ⟨r,x,y,z,rfl,g,h1,h2,h3⟩
section
variable {P:Program} {w:World} {K:PySem.W.Frag} {mg:Str→Option Value} {base:Heap}
def spTm (n:Nat):Sp:=fun vs H Q _=>∃(v:V) (p:Pl),vs= [v]∧PlAt H v p∧Sm p∧pdep p < n∧∀H',Same H H'→Q (.bl (tmB n p)) H'
def spCt (n:Nat):Sp:=fun vs H Q _=>∃(v:V) (p:Pl),vs= [v]∧PlAt H v p∧Sm p∧pdep p < n+1∧∀H',Same H H'→Q (.bl (ctB n p)) H'
theorem xg:az ["thing"] ["thing"] (ag sTmQ):=⟨rfl,rfl,rfl,by decide +kernel,rfl,by decide +kernel,by decide +kernel⟩
theorem w6 {f fT fN fC:Addr} {fd dT dN dC:FuncData} {n:Nat} (F:Fun K "is_term" "is_term" sTmQ f fd)
 (gT:FnOk P w K mg base CX0 1 fT dT ["thing","count"] spTo) (kT:PySem.W.keepIn K (.ref fT)=true) (bT:Binds K dT ["thing","count"] []) (mT:mg "is_tuple_of"=some (.ref fT))
 (gN:FnOk P w K mg base CX0 1 fN dN ["thing"] spNm) (kN:PySem.W.keepIn K (.ref fN)=true) (bN:Binds K dN ["thing"] []) (mN:mg "is_name"=some (.ref fN))
 (gC:FnOk P w K mg base CX0 (2*n+2) fC dC ["thing"] (spCt n)) (kC:PySem.W.keepIn K (.ref fC)=true) (bC:Binds K dC ["thing"] []) (mC:mg "are_call_terms"=some (.ref fC)):FnOk P w K mg base CX0 (2*n+3) f fd ["thing"] (spTm (n+1)):=by
 refine F.ok xg (fun vs H Q E h=> ?_) (fun cdv A outer s H vs Q E hr h=> ?_)
 · obtain ⟨v,p,rfl,_⟩:=h
   rfl
 obtain ⟨v,p,rfl,hv,hs,hd,k⟩:=h
 have hr1:Room 1 _:=hr.mono (by omega)
 have hu0:=yG (yW (show 0≤64 by decide) _) hr.units
 refine ⟨_,ae (aM (aJ (af gT hr1 rfl mT kT bT .nil aj (a9 (pv 0) (a9 ac aa)))) (ai (ak (b7 (aY (cW hu0) (aq ar (pv 0) ac fun _ _=>rfl) aG (ax _)) (bn (af gN hr1 rfl mN kN bN .nil aj (a9 (aq ar (pv 0) ac fun _ _=>rfl) aa)))))) aw)
  (ae (aM (aJ (af gT hr1 rfl mT kT bT .nil aj (a9 (pv 0) (a9 ac aa)))) (ai (ak (b7 (aY (cW hu0) (aq ar (pv 0) ac fun _ _=>rfl) aG (ax _)) (b7 (af gN hr1 rfl mN kN bN .nil aj (a9 (aq ar (pv 0) ac fun _ _=>rfl) aa)) (bn (af gC hr rfl mC kC bC .nil aj (a9 (aq ar (pv 0) ac fun _ _=>rfl) aa))))))) aw)
  (ai (ak bR))),?_⟩
 rcases fK p with ⟨a,b,rfl⟩|⟨a,b,c,rfl⟩|⟨e2,e3,et⟩
 · obtain ⟨r,x,y,rfl,g,hx,hy⟩:=pl2 hv
   have hs2:Sm a∧Sm b:=by
    unfold Sm Sms Sms Sms at hs
    exact ⟨hs.2.1,hs.2.2.1⟩
   have k':=k H (Same.refl H)
   rw [tmB] at k'
   refine ⟨_,rfl, .ref r,_,2,rfl,hv,_,rfl,?_⟩
   refine iteT ?_
   refine ⟨_,rfl,r,_,0,x,rfl,rfl,SqT.of g,rfl,a,_,hx,rfl,_,rfl,?_⟩
   cases e:isS "name" a with
   |false=>
    rw [e] at k'
    exact iteF k'
   |true=>
    rw [e] at k'
    exact iteT ⟨_,rfl,r,_,1,y,rfl,rfl,SqT.of g,rfl,y,b,rfl,hy,qb hs2.2,k'⟩
 · obtain ⟨r,x,y,z,rfl,g,hx,hy,hz⟩:=pl3 hv
   have hs2:Sm a∧Sm b∧Sm c:=by
    unfold Sm Sms Sms Sms Sms at hs
    exact ⟨hs.2.1,hs.2.2.1,hs.2.2.2.1⟩
   have hd2:pdep c < n+1:=by
    simp only [pdep,psdep] at hd
    omega
   refine ⟨_,rfl, .ref r,_,2,rfl,hv,_,rfl,?_⟩
   refine iteF ?_
   refine ⟨_,rfl, .ref r,_,3,rfl,hv,_,rfl,?_⟩
   refine iteT ?_
   refine ⟨_,rfl,r,_,0,x,rfl,rfl,SqT.of g,rfl,a,_,hx,rfl,_,rfl,?_⟩
   cases e:isS "call" a with
   |false=>
    have k':=k H (Same.refl H)
    rw [tmB,e] at k'
    exact iteF k'
   |true=>
    refine iteT ⟨_,rfl,r,_,1,y,rfl,rfl,SqT.of g,rfl,y,b,rfl,hy,qb hs2.2.1,_,rfl,?_⟩
    cases e2:nmB b with
    |false=>
     have k':=k H (Same.refl H)
     rw [tmB,e,e2] at k'
     exact iteF k'
    |true=>
     refine iteT ⟨_,rfl,r,_,2,z,rfl,rfl,SqT.of g,rfl,z,c,rfl,hz,hs2.2.2,hd2,fun H1 s1=> ?_⟩
     have k':=k H1 s1
     rw [tmB,e,e2] at k'
     exact k'
 · refine ⟨_,rfl,v,p,2,rfl,hv,_,rfl,?_⟩
   rw [e2]
   refine iteF ?_
   refine ⟨_,rfl,v,p,3,rfl,hv,_,rfl,?_⟩
   rw [e3]
   refine iteF ?_
   have k':=k H (Same.refl H)
   rw [et] at k'
   exact k'
end
open PySem L2 Mth Tre
theorem ah {H:Hp} {p:Addr} {o:HO} (h:H p=none):Same H (upd H p o):=fun b u e=>by
 rw [aF (aK e h)]
 exact e
theorem c8 {H H':Hp} {D:Addr} {o:HO} (h:H D=none) (s:Same H H'):Same H (upd H' D o):=fun b u e=>by
 rw [aF (aK e h)]
 exact s b u e
end K05
namespace Zp
open PySem
inductive Src where
 |lst|tup
def Src.It (k:Src) (h:Heap) (it l:Addr) (i:Nat):Prop:=match k with
 | .lst=>h.IsListIter it l i
 | .tup=>h.IsTupleIter it l i
def Src.Sq (k:Src) (h:Heap) (l:Addr) (xs:Array Value):Prop:=match k with
 | .lst=>h.IsList l xs
 | .tup=>h.IsTuple l xs
theorem cS {k:Src} {h h':Heap} {a l:Addr} {i:Nat} (x:k.It h a l i) (e:∀o,h.get? a=some o→h'.get? a=some o):k.It h' a l i:=by
 cases k
 · exact Heap.IsListIter.at x e
 · exact Heap.IsTupleIter.at x e
theorem jT {k:Src} {h h':Heap} {l:Addr} {xs:Array Value} (x:k.Sq h l xs) (e:∀o,h.get? l=some o→h'.get? l=some o):k.Sq h' l xs:=by
 cases k
 · exact Heap.IsList.at x e
 · exact Heap.IsTuple.at x e
theorem jB {k:Src} {h:Heap} {a l:Addr} {i:Nat} (x:k.It h a l i):∃o,h.get? a=some o∧∀v,o.data≠ .cell v:=by
 cases k
 all_goals
  obtain ⟨o,e,_,d⟩:=x
  exact ⟨o,e,fun v z=>by rw [d] at z;cases z⟩
section
variable {prog:Program} {w:World} {A:Around} {E:Value→Shared→Prop} {s:Shared} {k:Src} {it l:Addr} {i:Nat} {xs:Array Value} {x:Value} {Q:Value→Shared→Prop}
theorem jr (st:k.It s.heap it l i) (sq:k.Sq s.heap l xs) (hx:xs[i]?=some x) (q:∀h',k.It h' it l (i+1)→Heap.SameBut it s.heap h'→Q x {s with heap:=h'}):
 wpAny (model prog w) A (Builtin.SmallTypes.nextOf (.ref it)) Q E s:=by
 cases k
 · exact wpAny_nextOf_list_item st sq hx q
 · obtain ⟨o,e1,e2,e3⟩:=id st
   obtain ⟨p,f1,_,n,f3⟩:=sq
   have ty:=Heap.IsTupleIter.typeIs st
   rw [Builtin.SmallTypes.nextOf]
   refine wpAny_bind (wpAny_callSpecial?_slot (name:=Str.ofString "__next__") ty F.slot_tuple_iterator_next (wpAny_call_entry F.slot_tuple_iterator_next ty F.entry_tuple_iterator_next ?_ (F.args_tuple_iterator_next_1 _)))
   show wpAny _ _ (do let y←field (.ref it) 0;_) _ _ s
   refine wpAny_bind (wpAny_field e1 e3 (x:= .ref l) rfl ?_)
   show wpAny _ _ (if (Value.ref l==Value.none)=true then _ else _) _ _ _
   refine (if_neg (show¬((Value.ref l==Value.none)=true) from yI))▸ ?_
   show wpAny _ _ (do let y←field (.ref it) 1;_) _ _ s
   refine wpAny_bind (wpAny_field e1 e3 (x:= .int i 0) rfl ?_)
   show wpAny _ _ (do let y←seqItems? (.ref l);_) _ _ s
   refine wpAny_bind (wpAny_seqItems f1 f3 ?_)
   simp only [hx,yT]
   refine wpAny_bind (wpAny_setField e1 e3 (by simp) (wpAny_pure ⟨x,rfl,wpAny_pure (q _ ?_ (Heap.SameBut.update ..))⟩))
   refine ⟨_,Heap.get?_update_self _ e1 (Obj.isFreed_of_fields (Obj.data_mapFields e3 _)),(Obj.cls_mapFields ..).trans e2,?_⟩
   rw [Obj.data_mapFields e3]
   simp [rawInt]
theorem qX (hh:A.handled=none) (st:k.It s.heap it l i) (sq:k.Sq s.heap l xs) (hx:xs[i]?=none) (q:∀h' e,Heap.ExtBut it s.heap h'→(∃o,h'.get? e=some o∧o.cls= .type "StopIteration")→E (.ref e) {s with heap:=h'}):
 wpAny (model prog w) A (Builtin.SmallTypes.nextOf (.ref it)) Q E s:=by
 cases k
 · exact wpAny_nextOf_list_end hh st sq hx q
 · obtain ⟨o,e1,e2,e3⟩:=id st
   obtain ⟨p,f1,_,n,f3⟩:=sq
   have ty:=Heap.IsTupleIter.typeIs st
   rw [Builtin.SmallTypes.nextOf]
   refine wpAny_bind (wpAny_callSpecial?_slot (name:=Str.ofString "__next__") ty F.slot_tuple_iterator_next (wpAny_call_entry F.slot_tuple_iterator_next ty F.entry_tuple_iterator_next ?_ (F.args_tuple_iterator_next_1 _)))
   show wpAny _ _ (do let y←field (.ref it) 0;_) _ _ s
   refine wpAny_bind (wpAny_field e1 e3 (x:= .ref l) rfl ?_)
   show wpAny _ _ (if (Value.ref l==Value.none)=true then _ else _) _ _ _
   refine (if_neg (show¬((Value.ref l==Value.none)=true) from yI))▸ ?_
   show wpAny _ _ (do let y←field (.ref it) 1;_) _ _ s
   refine wpAny_bind (wpAny_field e1 e3 (x:= .int i 0) rfl ?_)
   show wpAny _ _ (do let y←seqItems? (.ref l);_) _ _ s
   refine wpAny_bind (wpAny_seqItems f1 f3 ?_)
   simp only [hx,yT]
   refine wpAny_bind (wpAny_rule (wpAny_bind (wpAny_setField e1 e3 (by simp) ?_)))
   show wpAny _ _ (do let y←newExc (.type "StopIteration") [];_) _ _ _
   refine wpAny_bind ?_
   simp only [newTuple,newExc]
   refine wpAny_bind (wpAny_newObj_type (wpAny_bind (m:=firstArgMember _ _) (wpAny_of_eq (a:=Value.none) (by first|rfl|(simp only [firstArgMember];rfl)) (wpAny_newObj_type ?_ (by size_fits)))) (by size_fits))
   simp only [raiseNew]
   refine wpAny_bind (wpAny_handled ?_)
   first|rw [show A.in1.handled=none from hh]|rw [hh]
   exact wpAny_bind (wpAny_pure (wpAny_throw (q _ _ (((Heap.SameBut.update ..).extBut.push _).push _) ⟨_,Heap.get?_push_size _ rfl,rfl⟩)))
end
open PySem
section
variable {prog:Program} {w:World} {A:Around} {E:Value→Shared→Prop} {s:Shared} {k:Src} {z TI TO i1 i2 l1 l2:Addr} {j:Nat} {xs ys:Array Value} {x y a b:Value}
theorem sK {Q:Value→Shared→Prop} (D:ZipApart z TI TO i1 i2 l1 l2) (hz:IsZip s.heap z TI TO .none) (hI:IsPair s.heap TI (.ref i1) (.ref i2)) (hO:IsPair s.heap TO a b)
 (t1:k.It s.heap i1 l1 j) (t2:k.It s.heap i2 l2 j) (q1:k.Sq s.heap l1 xs) (q2:k.Sq s.heap l2 ys) (ex:xs[j]?=some x) (ey:ys[j]?=some y)
 (q:∀h',IsZip h' z TI TO (rawInt s.heap.objs.size)→IsPair h' TO x y→k.It h' i1 l1 (j+1)→k.It h' i2 l2 (j+1)→IsPair h' s.heap.objs.size x y→h'.objs.size=s.heap.objs.size+1→
  (∀c o,c≠z→c≠TO→c≠i1→c≠i2→s.heap.get? c=some o→h'.get? c=some o)→Q (.ref s.heap.objs.size) {s with heap:=h'}):
 wpAny (model prog w) A (Builtin.«zip.__next__» ⟨[.ref z],[]⟩) (fun r s'=>∃v,r= .done (.ret v)∧Q v s') E s:=by
 show wpAny _ _ (do let u←field (.ref z) 2;_) _ _ _
 refine wpAny_bind (wpAny_field hz rfl (x:= .bool false) rfl ?_)
 show wpAny _ _ (do let u←field (.ref z) 3;_) _ _ _
 refine wpAny_bind (wpAny_field hz rfl (x:= .ref TI) rfl (wpAny_bind (wpAny_seqItems hI rfl ?_)))
 show wpAny _ _ (do let u←Builtin.SmallTypes.ownedTupleIsFree (.ref z);_) _ _ _
 refine wpAny_bind ?_
 rw [Builtin.SmallTypes.ownedTupleIsFree]
 refine wpAny_bind (wpAny_field hz rfl (x:= .none) rfl (wpAny_pure ?_))
 simp only [if_true]
 refine wpAny_bind (wpAny_rule (wpAny_bind (wpAny_field hz rfl (x:= .ref TO) rfl (wpAny_bind (wpAny_setField_rec hz (by simp) fun g1 y1 s1=> ?_)))))
 have y1:IsZip g1 z TI TO .ellipsis:=y1
 refine wpAny_bind ?_
 simp only [List.forIn_cons,List.forIn_nil,List.zipIdx_nil,List.zipIdx_cons]
 refine wpAny_bind (wpAny_bind (wpAny_onRaise ?_))
 show wpAny _ _ (do let u←Builtin.SmallTypes.nextOf (.ref i1);_) _ _ _
 refine wpAny_bind (jr (s:= {s with heap:=g1}) (cS t1 fun o e=>s1.extBut _ o D.i1z e) (jT q1 fun o e=>s1.extBut _ o D.l1z e) ex fun g2 u1 s2=>wpAny_pure ?_)
 have o2:IsPair g2 TO a b:=s2.extBut _ _ D.TOi1 (s1.extBut _ _ D.TOz hO)
 refine wpAny_bind (wpAny_seqItems o2 rfl (wpAny_bind (wpAny_updateSeq_pair (s:= {s with heap:=g2}) o2 fun g3 o3 s3=> ?_)))
 have o3:IsPair g3 TO x b:=o3
 refine wpAny_bind (wpAny_letGo (wpAny_pure (wpAny_bind (wpAny_bind (wpAny_onRaise ?_)))))
 show wpAny _ _ (do let u←Builtin.SmallTypes.nextOf (.ref i2);_) _ _ _
 refine wpAny_bind (jr (s:= {s with heap:=g3}) (cS t2 fun o e=>s3.extBut _ o D.TOi2.symm (s2.extBut _ o D.i12.symm (s1.extBut _ o D.i2z e))) (jT q2 fun o e=>s3.extBut _ o D.l2TO (s2.extBut _ o D.l2i1 (s1.extBut _ o D.l2z e))) ey fun g4 u2 s4=>wpAny_pure ?_)
 have o4:IsPair g4 TO x b:=s4.extBut _ _ D.TOi2 o3
 refine wpAny_bind (wpAny_seqItems o4 rfl (wpAny_bind (wpAny_updateSeq_pair (s:= {s with heap:=g4}) o4 fun g5 o5 s5=> ?_)))
 have o5:IsPair g5 TO x y:=o5
 refine wpAny_bind (wpAny_letGo (wpAny_pure (wpAny_pure (wpAny_bind (wpAny_seqItems o5 rfl (wpAny_bind (wpAny_newTuple ?_)))))))
 have sz:g5.objs.size=s.heap.objs.size:=by rw [s5.1,s4.1,s3.1,s2.1,s1.1]
 have all:∀c o,c≠z→c≠TO→c≠i1→c≠i2→s.heap.get? c=some o→g5.get? c=some o:=fun c o c1 c2 c3 c4 e=>s5.extBut _ _ c2 (s4.extBut _ _ c4 (s3.extBut _ _ c2 (s2.extBut _ _ c3 (s1.extBut _ _ c1 e))))
 have y5:IsZip g5 z TI TO .ellipsis:=s5.extBut _ _ D.TOz.symm (s4.extBut _ _ D.i2z.symm (s3.extBut _ _ D.TOz.symm (s2.extBut _ _ D.i1z.symm y1)))
 have v1:k.It g5 i1 l1 (j+1):=cS u1 fun o e=>s5.extBut _ o D.TOi1.symm (s4.extBut _ o D.i12 (s3.extBut _ o D.TOi1.symm e))
 have v2:k.It g5 i2 l2 (j+1):=cS u2 fun o e=>s5.extBut _ o D.TOi2.symm e
 have lz:z < g5.objs.size:=Heap.lt_size y5
 show wpAny _ _ (do let u←Builtin.SmallTypes.ownedTupleHandOut (.ref z) (.ref g5.objs.size);_) _ _ _
 refine wpAny_bind ?_
 rw [Builtin.SmallTypes.ownedTupleHandOut]
 have y6:IsZip (g5.push {cls:= .type "tuple",data:= .seq #[x,y]}) z TI TO .ellipsis:=Heap.get?_push_of_some _ y5
 refine wpAny_bind (wpAny_setField_rec y6 (by simp) fun g7 y7 s7=> ?_)
 have y7:IsZip g7 z TI TO (rawInt g5.objs.size):=y7
 refine wpAny_setField_rec y7 (by simp) fun g8 y8 s8=> ?_
 have y8:IsZip g8 z TI TO (rawInt g5.objs.size):=y8
 have up:∀c o,c≠z→g5.get? c=some o→g8.get? c=some o:=fun c o n e=>s8.extBut _ _ n (s7.extBut _ _ n (Heap.get?_push_of_some _ e))
 have p8:IsPair g8 g5.objs.size x y:=s8.extBut _ _ (Nat.ne_of_gt lz) (s7.extBut _ _ (Nat.ne_of_gt lz) (Heap.get?_push_size _ rfl))
 have z8:g8.objs.size=g5.objs.size+1:=by rw [s8.1,s7.1,Heap.size_push]
 rw [sz] at y8 p8 z8
 refine wpAny_pure ⟨_,rfl,?_⟩
 show Q (.ref g5.objs.size) _
 rw [sz]
 exact q g8 y8 (up _ _ D.TOz o5) (cS v1 fun o e=>up _ o D.i1z e) (cS v2 fun o e=>up _ o D.i2z e) p8 z8 fun c o c1 c2 c3 c4 e=>up c o c1 (all c o c1 c2 c3 c4 e)
theorem vm {Q:Fin→Shared→Prop} (hh:A.handled=none) (D:ZipApart z TI TO i1 i2 l1 l2) (hz:IsZip s.heap z TI TO .none) (hI:IsPair s.heap TI (.ref i1) (.ref i2)) (hO:IsPair s.heap TO a b)
 (t1:k.It s.heap i1 l1 j) (t2:k.It s.heap i2 l2 j) (q1:k.Sq s.heap l1 xs) (q2:k.Sq s.heap l2 ys) (ends:xs[j]?=none)
 (q:∀h' e,(∀c o,c≠z→c≠TO→c≠i1→c≠i2→s.heap.get? c=some o→h'.get? c=some o)→(∃o,h'.get? e=some o∧o.cls= .type "StopIteration")→E (.ref e) {s with heap:=h'}):
 wpAny (model prog w) A (Builtin.«zip.__next__» ⟨[.ref z],[]⟩) Q E s:=by
 show wpAny _ _ (do let u←field (.ref z) 2;_) _ _ _
 refine wpAny_bind (wpAny_field hz rfl (x:= .bool false) rfl ?_)
 show wpAny _ _ (do let u←field (.ref z) 3;_) _ _ _
 refine wpAny_bind (wpAny_field hz rfl (x:= .ref TI) rfl (wpAny_bind (wpAny_seqItems hI rfl ?_)))
 show wpAny _ _ (do let u←Builtin.SmallTypes.ownedTupleIsFree (.ref z);_) _ _ _
 refine wpAny_bind ?_
 rw [Builtin.SmallTypes.ownedTupleIsFree]
 refine wpAny_bind (wpAny_field hz rfl (x:= .none) rfl (wpAny_pure ?_))
 simp only [if_true]
 refine wpAny_bind (wpAny_rule (wpAny_bind (wpAny_field hz rfl (x:= .ref TO) rfl (wpAny_bind (wpAny_setField_rec hz (by simp) fun g1 y1 s1=> ?_)))))
 have y1:IsZip g1 z TI TO .ellipsis:=y1
 refine wpAny_bind ?_
 simp only [List.forIn_cons,List.forIn_nil,List.zipIdx_nil,List.zipIdx_cons]
 refine wpAny_bind (wpAny_bind (wpAny_onRaise ?_))
 show wpAny _ _ (do let u←Builtin.SmallTypes.nextOf (.ref i1);_) _ _ _
 refine wpAny_bind (qX (s:= {s with heap:=g1}) hh (cS t1 fun o e=>s1.extBut _ o D.i1z e) (jT q1 fun o e=>s1.extBut _ o D.l1z e) ends fun g2 e s2 he=> ?_)
 obtain ⟨oe,e1,e2⟩:=he
 have y2:IsZip g2 z TI TO .ellipsis:=s2 _ _ D.i1z.symm y1
 have ne:e≠z:=fun n=>by subst n;rw [y2] at e1;cases e1;simp at e2
 exact wpAny_setField_rec y2 (by simp) fun g3 _ s3=>q g3 e (fun c o c1 _ c3 _ n=>s3.extBut _ _ c1 (s2 _ _ c3 (s1.extBut _ _ c1 n))) ⟨oe,s3.extBut _ _ ne e1,e2⟩
theorem sP {Q:Option Value→Shared→Prop} (D:ZipApart z TI TO i1 i2 l1 l2) (hz:IsZip s.heap z TI TO .none) (hI:IsPair s.heap TI (.ref i1) (.ref i2)) (hO:IsPair s.heap TO a b)
 (t1:k.It s.heap i1 l1 j) (t2:k.It s.heap i2 l2 j) (q1:k.Sq s.heap l1 xs) (q2:k.Sq s.heap l2 ys) (ex:xs[j]?=some x) (ey:ys[j]?=some y)
 (q:∀h',IsZip h' z TI TO (rawInt s.heap.objs.size)→IsPair h' TO x y→k.It h' i1 l1 (j+1)→k.It h' i2 l2 (j+1)→IsPair h' s.heap.objs.size x y→h'.objs.size=s.heap.objs.size+1→
  (∀c o,c≠z→c≠TO→c≠i1→c≠i2→s.heap.get? c=some o→h'.get? c=some o)→Q (some (.ref s.heap.objs.size)) {s with heap:=h'}):
 wpAny (model prog w) A (pyNext (.ref z)) Q E s:=by
 have ty:s.TypeIs (.ref z) "zip":=⟨_,hz,rfl⟩
 rw [pyNext]
 exact wpAny_bind (wpAny_attempt (wpAny_callSpecial?_slot (name:=Str.ofString "__next__") ty F.slot_zip_next (wpAny_call_entry F.slot_zip_next ty F.entry_zip_next
  (sK D hz hI hO t1 t2 q1 q2 ex ey fun h' a1 a2 a3 a4 a5 a6 a7=>wpAny_pure (q h' a1 a2 a3 a4 a5 a6 a7)) (F.args_zip_next_1 _))))
theorem vn {Q:Option Value→Shared→Prop} (hh:A.handled=none) (D:ZipApart z TI TO i1 i2 l1 l2) (hz:IsZip s.heap z TI TO .none) (hI:IsPair s.heap TI (.ref i1) (.ref i2)) (hO:IsPair s.heap TO a b)
 (t1:k.It s.heap i1 l1 j) (t2:k.It s.heap i2 l2 j) (q1:k.Sq s.heap l1 xs) (q2:k.Sq s.heap l2 ys) (ends:xs[j]?=none)
 (q:∀h',(∀c o,c≠z→c≠TO→c≠i1→c≠i2→s.heap.get? c=some o→h'.get? c=some o)→Q none {s with heap:=h'}):wpAny (model prog w) A (pyNext (.ref z)) Q E s:=by
 have ty:s.TypeIs (.ref z) "zip":=⟨_,hz,rfl⟩
 rw [pyNext]
 refine wpAny_bind (wpAny_attempt (wpAny_callSpecial?_slot (name:=Str.ofString "__next__") ty F.slot_zip_next (wpAny_call_entry F.slot_zip_next ty F.entry_zip_next (vm hh D hz hI hO t1 t2 q1 q2 ends fun h' e up he=> ?_) (F.args_zip_next_1 _))))
 obtain ⟨o,e1,e2⟩:=he
 exact wpAny_bind (wpAny_isInstance (T:="StopIteration") (b:=true) ⟨o,e1,e2⟩ isSubtype_stop (wpAny_pure (q _ up)))
end
open PySem
abbrev zA (h:Heap) (l:Addr):Heap:=h.push {cls:= .type "tuple_iterator",data:= .fields #[.ref l, .int 0 0]}
abbrev zB (h:Heap) (l m:Addr):Heap:=zA (zA h l) m
noncomputable abbrev zC (h:Heap) (l m:Addr):Heap:=(zB h l m).push {cls:= .type "tuple",data:= .seq #[.ref h.objs.size, .ref (zA h l).objs.size]}
noncomputable abbrev zD (h:Heap) (l m:Addr):Heap:=(zC h l m).push {cls:= .type "tuple",data:= .seq #[.none, .none]}
noncomputable abbrev zE (h:Heap) (l m:Addr):Heap:=(zD h l m).push {cls:= .type "zip",data:= .fields #[.none, .bool false, .bool false, .ref (zB h l m).objs.size, .ref (zC h l m).objs.size]}
theorem u7 (l m:Addr) (xs ys:Array Value):Meets (Builtin.«zip.__new__» ⟨[.type "zip", .ref l, .ref m],[]⟩) (fun _ R s=>s.heap.IsTuple l xs∧s.heap.IsTuple m ys∧
 R (.ok (.ret (.ref (zD s.heap l m).objs.size))) {s with heap:=zE s.heap l m}):=
 .of_wp fun prog w A R s h=>by
  obtain ⟨hp,g,d,tk,os⟩:=s
  obtain ⟨p1,p2,h⟩:=h
  have hsub:=sub_zip
  have p1:Heap.IsTuple (Shared.heap ⟨hp,g,d,tk,os⟩) l xs:=p1
  have p2:Heap.IsTuple (Shared.heap ⟨zA hp l,g,d,tk,os⟩) m ys:=Heap.IsTuple.at p2 fun o e=>Heap.get?_push_of_some _ e
  wp_walk using wpAny_pyIter_tuple p1,wpAny_pyIter_tuple p2
  exact ⟨_,rfl,h⟩
section
variable {prog:Program} {w:World} {A:Around} {E:Value→Shared→Prop} {s:Shared}
theorem sj {k:Src} {l m:Addr} {xs ys:Array Value} {Q:Value→Shared→Prop} (p1:k.Sq s.heap l xs) (p2:k.Sq s.heap m ys)
 (q:∀h',IsZip h' (s.heap.objs.size+4) (s.heap.objs.size+2) (s.heap.objs.size+3) .none→IsPair h' (s.heap.objs.size+2) (.ref s.heap.objs.size) (.ref (s.heap.objs.size+1))→
  IsPair h' (s.heap.objs.size+3) .none .none→k.It h' s.heap.objs.size l 0→k.It h' (s.heap.objs.size+1) m 0→h'.objs.size=s.heap.objs.size+5→
  (∀c o,s.heap.get? c=some o→h'.get? c=some o)→Q (.ref (s.heap.objs.size+4)) {s with heap:=h'}):
 wpAny (model prog w) A (call (.type "zip") [.ref l, .ref m]) Q E s:=by
 cases k
 · exact call_zip_2 p1 p2 q
 · refine callType_new F.called_zip (by decide) (F.typeCall_zip_2 _ _) (F.newCall_zip_2 _ _) (fun obj=>F.args_object_init_3 obj _ _) F.entry_zip_new (u7 l m xs ys) ⟨p1,p2,?_⟩
   have a1:(zA s.heap l).objs.size=s.heap.objs.size+1:=Heap.size_push ..
   have a2:(zB s.heap l m).objs.size=s.heap.objs.size+2:=by rw [Heap.size_push,a1]
   have a3:(zC s.heap l m).objs.size=s.heap.objs.size+3:=by rw [Heap.size_push,a2]
   have a4:(zD s.heap l m).objs.size=s.heap.objs.size+4:=by rw [Heap.size_push,a3]
   have a5:(zE s.heap l m).objs.size=s.heap.objs.size+5:=by rw [Heap.size_push,a4]
   have b5:(zE s.heap l m).get? (zD s.heap l m).objs.size=some _:=Heap.get?_push_size _ rfl
   have b4:(zE s.heap l m).get? (zC s.heap l m).objs.size=some _:=Heap.get?_push_of_some _ (Heap.get?_push_size _ rfl)
   have b3:(zE s.heap l m).get? (zB s.heap l m).objs.size=some _:=Heap.get?_push_of_some _ (Heap.get?_push_of_some _ (Heap.get?_push_size _ rfl))
   have b2:(zE s.heap l m).get? (zA s.heap l).objs.size=some _:=Heap.get?_push_of_some _ (Heap.get?_push_of_some _ (Heap.get?_push_of_some _ (Heap.get?_push_size _ rfl)))
   have b1:(zE s.heap l m).get? s.heap.objs.size=some _:=Heap.get?_push_of_some _ (Heap.get?_push_of_some _ (Heap.get?_push_of_some _ (Heap.get?_push_of_some _ (Heap.get?_push_size _ rfl))))
   show _∧_
   rw [a2,a3,a4] at b5
   rw [a1,a2] at b3
   rw [a3] at b4
   rw [a1] at b2
   rw [a4]
   exact ⟨⟨_,b5,rfl⟩,q _ b5 b3 b4 ⟨_,b1,rfl,rfl⟩ ⟨_,b2,rfl,rfl⟩ a5 fun c o e=>Heap.get?_push_of_some _ (Heap.get?_push_of_some _ (Heap.get?_push_of_some _ (Heap.get?_push_of_some _ (Heap.get?_push_of_some _ e))))⟩
end
end Zp
namespace L2
open PySem PySem.Spec PyProof.Rows Zp
def Sqk (k:Src) (K:PySem.W.Frag) (H:Hp) (a:Addr) (xs:List V):Prop:=match k with
 | .lst=>SqL K H a xs
 | .tup=>SqT K H a xs
theorem Inv.sqk {X:Cx} {pins:List (Addr×Obj)} {σ:St} {H:Hp} {s:Shared} {k:Src} {a:Addr} {xs:List V} (I:Inv X pins σ H s) (h:Sqk k X.K H a xs):∃its:List Value,Vals xs its∧k.Sq s.heap a its.toArray∧xs.length≤sizeLine:=by
 cases k
 · obtain ⟨its,r,p,z⟩:=I.list h
   exact ⟨its,r,p.isList,z⟩
 · obtain ⟨its,r,p,z⟩:=I.tuple h
   exact ⟨its,r,p,z⟩
theorem Inv.sqk_inj {X:Cx} {pins:List (Addr×Obj)} {σ:St} {H:Hp} {s:Shared} {k:Src} {a:Addr} {xs ys:List V} (I:Inv X pins σ H s) (h:Sqk k X.K H a xs) (h':Sqk k X.K H a ys):xs=ys:=by
 cases k
 · exact I.list_inj h h'
 · exact I.tuple_inj h h'
def Itz (k:Src) (K:PySem.W.Frag) (a b:Addr):It:=
 ⟨fun i H=>∃xs ys x y,Sqk k K H a xs∧Sqk k K H b ys∧xs[i]?=some x∧ys[i]?=some y,
  fun i H v H'=>∃T x y,v= .ref T∧H T=none∧H'=upd H T (.tup [x,y])∧(∀xs,Sqk k K H a xs→xs[i]?=some x)∧(∀ys,Sqk k K H b ys→ys[i]?=some y)∧i < sizeLine,
  fun i H=>∃xs ys,Sqk k K H a xs∧Sqk k K H b ys∧xs.length≤i⟩
section
variable {X:Cx} {pins:List (Addr×Obj)} {σ:St} {H:Hp} {s:Shared}
theorem Inv.turneds {h':Heap} {t':Nat} {fp:List Addr} (I:Inv X pins σ H s) (k:∀b o,b∉fp→s.heap.get? b=some o→h'.get? b=some o) (hf:∀b∈fp,FpOk X pins H b):Inv X pins σ H {s with heap:=h',toks:=t'}:=by
 refine I.call' (s':= {s with heap:=h',toks:=t'}) (ch:=fp) rfl ⟨fun b o e _ _ hx=>k b o hx e,fun b o e _ _ hx=>⟨o.slots,k b o hx e⟩,fun _ _ _ n _=>n,fun b o e hx=>⟨o,k b o hx e⟩,fun _ _ e=>e,fun _ _ _ e=>e,fun b ps e=>⟨#[],by rw [e];simp⟩⟩ ?_ I.bare fun b hb=> ?_
 · intro b o e
   have nb:∀c u,H c=some u→c∉fp:=fun c u e z=>by rw [(hf c z).1] at e;cases e
   refine (I.hok b o e).stay (fun c v hc q=>k c v ?_ q) (fun _ q=>q) fun _ _ q=>q
   rcases hc with z|z
   · rw [z];exact nb b o e
   · exact nb c _ z
 · obtain ⟨g0,g1,g2,g3,g4,g5⟩:=hf b hb
   exact ⟨g3,g1,g4,g5⟩
end
theorem cH {P:Program} {w:World} {K:PySem.W.Frag} {es:List Expr} {kk:Nat} {pos:Pos} {k:Src} (a b z TI TO i1 i2:Addr) (hd: [z,TI,TO,i1,i2].Nodup):
 Turn P w K (.Tuple es kk pos) (Itz k K a b) [z,TI,TO,i1,i2] z (fun i h=>IsZip h z TI TO .none∧IsPair h TI (.ref i1) (.ref i2)∧(∃u v,IsPair h TO u v)∧k.It h i1 a i∧k.It h i2 b i∧a∉ [z,TI,TO,i1,i2]∧b∉ [z,TI,TO,i1,i2]) where
 mem:=by simp
 obj:=fun i h ⟨h1,h2,⟨u,v,h3⟩,h4,h5,_⟩ c hc=>by
  simp only [yk,yq,or_false] at hc
  rcases hc with rfl|rfl|rfl|rfl|rfl
  · exact ⟨_,h1,fun v e=>by cases (show Data.fields _=Data.cell v from e)⟩
  · exact ⟨_,h2,fun v e=>by cases (show Data.seq _ _=Data.cell v from e)⟩
  · exact ⟨_,h3,fun v e=>by cases (show Data.seq _ _=Data.cell v from e)⟩
  · exact jB h4
  · exact jB h5
 keep:=fun i h h' ⟨h1,h2,⟨u,v,h3⟩,h4,h5,h6⟩ kp=>⟨kp z (by simp) _ h1,kp TI (by simp) _ h2,⟨u,v,kp TO (by simp) _ h3⟩,cS h4 fun o e=>kp i1 (by simp) o e,cS h5 fun o e=>kp i2 (by simp) o e,h6⟩
 item:=by
  intro X hP hw hK hc i pins s σ H E I hf ⟨h1,h2,⟨u0,v0,h3⟩,h4,h5,h6,h7⟩ hg
  subst hP hw hK
  obtain ⟨xs,ys,x,y,g1,g2,g3,g4⟩:=hg
  obtain ⟨as,r1,p1,z1⟩:=I.sqk g1
  obtain ⟨bs,r2,p2,z2⟩:=I.sqk g2
  obtain ⟨u,e1,q1⟩:=r1.get g3
  obtain ⟨v,e2,q2⟩:=r2.get g4
  simp only [zp,yk,yq,or_false,not_or,List.nodup_nil,and_true,not_false_eq_true] at hd h6 h7
  obtain ⟨⟨d1,d2,d3,d4⟩,⟨d5,d6,d7⟩,⟨d8,d9⟩,d10⟩:=hd
  have D:ZipApart z TI TO i1 i2 a b:=⟨Ne.symm d1,Ne.symm d2,Ne.symm d3,Ne.symm d4,d5,d6,d7,d8,d9,d10,h6.1,h6.2.2.1,h6.2.2.2.1,h6.2.2.2.2,h7.1,h7.2.2.1,h7.2.2.2.1,h7.2.2.2.2⟩
  refine sP D h1 h2 h3 h4 h5 p1 p2 (x:=u) (y:=v) (by simpa using e1) (by simpa using e2) fun h' a1 a2 a3 a4 a5 a6 up=>⟨_,rfl,?_⟩
  refine wpAny_letOwnedTupleGo_zip (s:= {s with heap:=h'}) a1 fun h'' b1 sb=> ?_
  have T:=s.heap.objs.size
  have fr:H s.heap.objs.size=none:=I.hok.fresh (yl _)
  have lt:∀ {c:Addr} {o:Obj},s.heap.get? c=some o→c≠s.heap.objs.size:=fun e=>yE (Heap.lt_size e)
  have all:∀c o,c∉ [z,TI,TO,i1,i2]→s.heap.get? c=some o→h''.get? c=some o:=fun c o n e=>by
   simp only [yk,yq,or_false,not_or] at n
   exact sb.extBut c o n.1 (up c o n.1 n.2.2.1 n.2.2.2.1 n.2.2.2.2 e)
  have nz:s.heap.objs.size≠z:=(lt h1).symm
  have pT:IsPair h'' s.heap.objs.size u v:=sb.extBut _ _ nz a5
  have fp:∀b∈ [z,TI,TO,i1,i2],upd H s.heap.objs.size (.tup [x,y]) b=none:=fun c hc=>by
   have nc:c≠s.heap.objs.size:=by
    simp only [yk,yq,or_false] at hc
    rcases hc with rfl|rfl|rfl|rfl|rfl
    · exact lt h1
    · exact lt h2
    · exact lt h3
    · obtain ⟨o,e,_⟩:=jB h4
      exact lt e
    · obtain ⟨o,e,_⟩:=jB h5
      exact lt e
   rw [aF nc]
   exact (hf c hc).1
  refine ⟨.ref s.heap.objs.size,upd H s.heap.objs.size (.tup [x,y]),?_,rfl,⟨_,x,y,rfl,fr,rfl,fun zs hz=> ?_,fun zs hz=> ?_,yB (yF.mp g3).1 z1⟩,⟨b1,?_,⟨u,v,?_⟩,?_,?_,?_,?_⟩,fp⟩
  ·
   refine I.call' (s':= {s with heap:=h''}) (ch:= [z,TI,TO,i1,i2]) rfl ⟨fun b o e _ _ hx=>all b o hx e,fun b o e _ _ hx=>⟨o.slots,all b o hx e⟩,fun c o e n _=>by rw [aF (lt e)];exact n,fun b o e hx=>⟨o,all b o hx e⟩,fun c zs e=>by rw [aF (aK e fr)];exact e,fun c o zs e=>by rw [aF (aK e fr)];exact e,fun c ps e=>⟨#[],by rw [aF (aK e fr),e];simp⟩⟩ ?_ I.bare fun b hb=> ?_
   · intro c o e
     by_cases hcT:c=s.heap.objs.size
     · subst hcT
       rw [ad] at e
       cases e
       exact ⟨by show 2≤sizeLine;decide,[u,v], .cons q1 (.cons q2 .nil),⟨_,pT,rfl,_,rfl⟩⟩
     · rw [aF hcT] at e
       have nb:∀c u,H c=some u→c∉ [z,TI,TO,i1,i2]:=fun c u e hz=>by rw [(hf c hz).1] at e;cases e
       refine (I.hok c o e).stay (fun d v hc q=>all d v ?_ q) (fun d q=> ?_) fun d m q=> ?_
       · rcases hc with hz|hz
         · rw [hz];exact nb c o e
         · exact nb d _ hz
       · rw [aF (aK q fr)];exact q
       · rw [aF (aK q fr)];exact q
   · obtain ⟨g0,g1,g2,g3,g4,g5⟩:=hf b hb
     exact ⟨g3,g1,g4,g5⟩
  · rw [I.sqk_inj hz g1];exact g3
  · rw [I.sqk_inj hz g2];exact g4
  · exact sb.extBut _ _ D.TIz (up _ _ D.TIz D.TITO D.TIi1 D.TIi2 h2)
  · exact sb.extBut _ _ D.TOz a2
  · exact cS a3 fun o e=>sb.extBut _ o D.i1z e
  · exact cS a4 fun o e=>sb.extBut _ o D.i2z e
  · simpa using h6
  · simpa using h7
 done:=by
  intro X hP hw hK hc i pins s σ H E I hf ⟨h1,h2,⟨u0,v0,h3⟩,h4,h5,h6,h7⟩ hg
  subst hP hw hK
  obtain ⟨xs,ys,g1,g2,g3⟩:=hg
  obtain ⟨as,r1,p1,z1⟩:=I.sqk g1
  obtain ⟨bs,r2,p2,z2⟩:=I.sqk g2
  have hl:=r1.length
  simp only [zp,yk,yq,or_false,not_or,List.nodup_nil,and_true,not_false_eq_true] at hd h6 h7
  obtain ⟨⟨d1,d2,d3,d4⟩,⟨d5,d6,d7⟩,⟨d8,d9⟩,d10⟩:=hd
  have D:ZipApart z TI TO i1 i2 a b:=⟨Ne.symm d1,Ne.symm d2,Ne.symm d3,Ne.symm d4,d5,d6,d7,d8,d9,d10,h6.1,h6.2.2.1,h6.2.2.2.1,h6.2.2.2.2,h7.1,h7.2.2.1,h7.2.2.2.1,h7.2.2.2.2⟩
  refine vn (I.ok.hd hc) D h1 h2 h3 h4 h5 p1 p2 (by simp;omega) fun h' up=>⟨rfl,I.turneds (t':=s.toks) (fun c o n e=> ?_) hf⟩
  simp only [yk,yq,or_false,not_or] at n
  exact up c o n.1 n.2.2.1 n.2.2.2.1 n.2.2.2.2 e
 self:=fun _ _ _ _ _ st h=>wpAny_pyIter_zip st.1 h
section
variable {X:Cx}
end
open PySem PySem.Spec PyProof.Rows Zp
section
variable {X:Cx}
end
section
variable {X:Cx}
theorem iT:∀ {bs:List Bool} {us:List Value},Vals (bs.map V.bl) us→us=bs.map Value.bool
 | [],_,r=>by cases r;rfl
 |b::bs,_,r=>by
  rw [yD] at r
  cases r with
  |cons r1 r2=>rw [iT r2,(show _=Value.bool b from r1)];rfl
theorem dQ (hc:X.calm=true):ci X (.builtin "all") (fun xs H Q=>∃(p:Addr) (bs:List Bool),xs= [.ref p]∧SqL X.K H p (bs.map V.bl)∧Q (.bl (bs.all id)) H):=by
 intro pins s σ H xs us Q I r h
 obtain ⟨p,bs,rfl,hp,q⟩:=h
 obtain ⟨u,rfl,ru⟩:=dg r
 cases ru
 obtain ⟨its,rv,pl,_⟩:=I.list hp
 have e:=iT rv
 subst e
 have hlt:p < s.heap.objs.size:=by obtain ⟨_,e,_⟩:=pl.isList;exact Heap.lt_size e
 refine call_all_walk (wpAny_pyIter_list pl.isList ⟨s.heap.objs.size,[s.heap.objs.size,p],[s.heap.objs.size],(bs.map Value.bool).toArray.size,_,_,fun i=>(bs[i]?).getD true,rfl,Walks.list (A:=X.A.in1) (I.ok.hd hc) _ p (yE hlt) _,
  ⟨⟨_,Heap.get?_push_size _ rfl,rfl,rfl⟩,pl.isList.push _⟩,fun i v s' Q' E' hP hQ=> ?_,fun h' tk hk=> ?_⟩)
 · have hP':(bs.map Value.bool)[i]?=some v:=by simpa using hP
   rw [yL] at hP'
   obtain ⟨b,e,rfl⟩:=yR.mp hP'
   dsimp only at hQ
   rw [e] at hQ
   exact wpAny_truthy_bool hQ
 · have e:((List.range (bs.map Value.bool).toArray.size).all fun i=>(bs[i]?).getD true)=bs.all id:=by
    rw [yp,yo]
    exact PyProof.Rows.LSm.range_all bs
   rw [e]
   refine ⟨.bl _,H,I.kept (t':=tk) fun b x ex=>hk b x (fun hm=> ?_) (Heap.get?_push_of_some _ ex),rfl,q⟩
   rw [yv.mp hm] at ex
   exact Nat.lt_irrefl _ (Heap.lt_size ex)
end
end L2
namespace Tre
open PySem L2 Zp
open PySem PySem.Spec PyProof.Rows L2
section
variable {X:Cx}
theorem sG {H:Hp} {t:Tr} {e:Value→Bool}:∀ {xs:List V} {us:List Value} {ts:List Tr},Vals xs us→TrsAt H xs ts→(∀v u s,RelV v u→TrAt H v s→e u=eqT s t)→us.any e=ts.any fun s=>eqT s t
 |_,_,[],r,h,_=>by
  unfold TrsAt at h
  subst h
  cases r
  rfl
 |_,_,s::ts,r,h,he=>by
  unfold TrsAt at h
  obtain ⟨v,q,rfl,h1,h2⟩:=h
  cases r with
  |cons r1 r2=>rw [List.any_cons,List.any_cons,sG r2 h2 he,he _ _ _ r1 h1]
end
open PySem PySem.Spec PyProof.Rows L2
section
variable {X:Cx}
def SqE (H:Hp) (p:Addr) (xs:List V):Prop:=H p=some (.lst xs)∨H p=some (.tup xs)
def rIn (b:Bool):R2:=fun x y H Q=>∃p xs ts t,y= .ref p∧SqE H p xs∧TrsAt H xs ts∧TrAt H x t∧(∀u∈ts,u.depth≤40)∧t.pure∧Q (.bl ((ts.any fun u=>eqT u t)==b)) H
theorem kR {pins:List (Addr×Obj)} {s:Shared} {σ:L2.St} {H:Hp} {xs:List V} {ts:List Tr} {t:Tr} {x:V} {v:Value} {its:List Value} (hu:X.A.units+50 < cLine) (I:Inv X pins σ H s) (rx:RelV x v) (r:Vals xs its) (hT:TrsAt H xs ts) (ht:TrAt H x t) (hd:∀u∈ts,u.depth≤40) (hpu:t.pure):
 ∃e:Value→Bool,(∀w,w∈its.toArray→SeqAt.EqAt X.A.in1 s w v (e w))∧its.toArray.any e=ts.any fun s=>eqT s t:=by
 classical
 have he:∀v' u' s',RelV v' u'→TrAt H v' s'→decide (∃v s,RelV v u'∧TrAt H v s∧eqT s t=true)=eqT s' t:=fun v' u' s' r' h'=>by
  cases e:eqT s' t with
  |true=>exact decide_eq_true ⟨v',s',r',h',e⟩
  |false=>
   refine decide_eq_false ?_
   rintro ⟨v2,s2,r2,h2,e2⟩
   cases r2.inj r'
   rw [TrAt.det h2 h',e] at e2
   cases e2
 refine ⟨fun u'=>decide (∃v s,RelV v u'∧TrAt H v s∧eqT s t=true),fun w hw=> ?_,?_⟩
 · have hw':w∈its:=by simpa using hw
   obtain ⟨j,hj,ej⟩:=List.getElem_of_mem hw'
   have l1:=r.length
   have l2:=hT.len
   have t1:ts[j]?=some (ts[j]'(by omega)):=yj _
   obtain ⟨v',e1,a1⟩:=hT.get t1
   obtain ⟨u',e2,q2⟩:=r.get e1
   rw [yj hj,ej] at e2
   cases e2
   dsimp only
   rw [he _ _ _ q2 a1]
   exact j5 I 40 (hd _ (yw t1)) (.inr hpu) a1 ht q2 rx (by show X.A.units+1+40+1 < cLine;omega)
 · rw [List.any_toArray]
   exact sG r hT he
theorem yf (b:Bool):(b==true)=b:=by cases b<;>rfl
theorem vi (b:Bool):(b==false)= !b:=by cases b<;>rfl
theorem tQ (hu:X.A.units+50 < cLine):OpR X (compareOp .NotIn) (rIn false):=by
 intro pins s σ H x y v u Q I rx ry h
 obtain ⟨p,xs,ts,t,rfl,hp,hT,ht,hd,hpu,q⟩:=h
 cases ry
 rcases hp with hp|hp
 · obtain ⟨its,r,pl,hz⟩:=I.list (SqL.of hp)
   obtain ⟨e,h1,h2⟩:=kR hu I rx r hT ht hd hpu
   refine SeqAt.notIn_listAt e pl.isList h1 ⟨.bl _,H,I,rfl,?_⟩
   rw [h2,←vi (ts.any fun s=>eqT s t)]
   exact q
 · obtain ⟨its,r,pl,hz⟩:=I.tuple (SqT.of hp)
   obtain ⟨e,h1,h2⟩:=kR hu I rx r hT ht hd hpu
   refine SeqAt.notIn_tupleAt e (show s.heap.IsTuple p its.toArray from pl) h1 ⟨.bl _,H,I,rfl,?_⟩
   rw [h2,←vi (ts.any fun s=>eqT s t)]
   exact q
end
end Tre
namespace L2
open PySem PySem.Spec PyProof.Rows
section
variable {X:Cx}
end
end L2
namespace Wd
open PySem L2 Tre Mth Dj
def FlG (kF:List (Key×V)):Prop:=∀x v,valV kF (.inr x)=some v→∃b,v=V.bl b
def VaG (H:Hp) (kV:List (Key×V)):Prop:=∀x v,valV kV (.inr x)=some v→∃p,TrAt H v (frT p)∧Gv p
def CaG (H:Hp) (kC:List Ent):Prop:=∀k v,valJ kC k=some v→∃p,TrAt H v (frT p)∧Gv p
structure WS (P:Program) (w:World) (K:PySem.W.Frag) (H:Hp) (F D C:Addr) (n:Nat):Prop where
 ne:F≠D
 fl:∃kF,H F=some (.dK kF)∧FlG kF∧kF.length≤n
 va:∃kV,H D=some (.dK kV)∧VaG H kV∧kV.length≤n
 ca:∃kC,DJ P w K H C kC∧CaG H kC∧kC.length≤n
section
variable {P:Program} {w:World} {K:PySem.W.Frag} {H H':Hp} {F D C:Addr} {n:Nat}
end
def WAt (P:Program) (w:World) (K:PySem.W.Frag) (H:Hp) (v:V) (W:Wld):Prop:=∃r F D C kF kV kC,v= .ref r∧H r=some (.tup [.ref F, .ref D, .ref C])∧
 (H F=some (.dK kF)∧∀x,(valV kF (.inr x)).getD (.bl false)= .bl (W.fl x))∧
 (H D=some (.dK kV)∧∀x,(∃u,valV kV (.inr x)=some u∧TrAt H u (frT (W.va x)))∨(valV kV (.inr x)=none∧W.va x=zero))∧
 (DJ P w K H C kC∧∀k,(∃u,valJ kC k=some u∧TrAt H u (frT (W.ca k)))∨(valJ kC k=none∧W.ca k=zero))
section
variable {P:Program} {w:World} {K:PySem.W.Frag} {H H':Hp} {F D C r:Addr} {n:Nat} {v:V} {W:Wld}
theorem WS.at_ (h:WS P w K H F D C n) (e:H r=some (.tup [.ref F, .ref D, .ref C])):∃W:Wld,W.Ok∧WAt P w K H (.ref r) W:=by
 obtain ⟨kF,f1,f2,f3⟩:=h.fl
 obtain ⟨kV,v1,v2,v3⟩:=h.va
 obtain ⟨kC,c1,c2,c3⟩:=h.ca
 have hF:∀x:Str,∃b,(valV kF (.inr x)).getD (.bl false)= .bl b:=fun x=>by
  cases q:valV kF (.inr x) with
  |none=>exact ⟨false,rfl⟩
  |some v=>
   obtain ⟨b,rfl⟩:=f2 x v q
   exact ⟨b,rfl⟩
 have hV:∀x:Str,∃p,Gv p∧((∃u,valV kV (.inr x)=some u∧TrAt H u (frT p))∨(valV kV (.inr x)=none∧p=zero)):=fun x=>by
  cases q:valV kV (.inr x) with
  |none=>exact ⟨zero,o0, .inr ⟨rfl,rfl⟩⟩
  |some v=>
   obtain ⟨p,h1,h2⟩:=v2 x v q
   exact ⟨p,h2, .inl ⟨v,rfl,h1⟩⟩
 have hC:∀k:List Tk.KT,∃p,Gv p∧((∃u,valJ kC k=some u∧TrAt H u (frT p))∨(valJ kC k=none∧p=zero)):=fun k=>by
  cases q:valJ kC k with
  |none=>exact ⟨zero,o0, .inr ⟨rfl,rfl⟩⟩
  |some v=>
   obtain ⟨p,h1,h2⟩:=c2 k v q
   exact ⟨p,h2, .inl ⟨v,rfl,h1⟩⟩
 exact ⟨⟨fun x=>Classical.choose (hF x),fun x=>Classical.choose (hV x),fun k=>Classical.choose (hC k)⟩,⟨fun x=>(Classical.choose_spec (hV x)).1,fun k=>(Classical.choose_spec (hC k)).1⟩,
  r,F,D,C,kF,kV,kC,rfl,e,⟨f1,fun x=>Classical.choose_spec (hF x)⟩,⟨v1,fun x=>(Classical.choose_spec (hV x)).2⟩,⟨c1,fun k=>(Classical.choose_spec (hC k)).2⟩⟩
end
def FrAt (K:PySem.W.Frag) (H:Hp) (v:V) (p:Fr):Prop:=∃r,v= .ref r∧SqX K H r [.int p.1, .int p.2]
def FrsAt (K:PySem.W.Frag) (H:Hp):List V→List Fr→Prop
 |vs,[]=>vs= []
 |vs,p::ps=>∃v r,vs=v::r∧FrAt K H v p∧FrsAt K H r ps
theorem FrsAt.snoc {K:PySem.W.Frag} {H:Hp} {u:V} {q:Fr} (hu:FrAt K H u q):∀ {vs:List V} {ps:List Fr},FrsAt K H vs ps→FrsAt K H (vs++ [u]) (ps++ [q])
 |vs,[],h=>by
  cases (show vs= [] from h)
  exact ⟨u,[],rfl,hu,rfl⟩
 |vs,p::ps,h=>by
  obtain ⟨v,r,rfl,h1,h2⟩:=h
  exact ⟨v,r++ [u],rfl,h1,FrsAt.snoc hu h2⟩
end Wd
namespace L2
open PySem Tre Wd
theorem c7 {t rest:TS} {Z:Ends} {σ:L2.St} {H:Hp} (R:L2.St→Hp→Prop) (hR:∀σ' H',R σ' H'→rest Z σ' H') (h:∀nx:L2.St→Hp→Prop,(∀σ' H',R σ' H'→nx σ' H')→t {Z with nx:=nx} σ H):tSeq t rest Z σ H:=h _ hR
theorem aV {i:Nat} {v:V} {σ:L2.St} {H:Hp} {k:L2.St→Hp→Prop} (h:k (σ.set i (some v)) H):dn i v σ H k:=h
theorem bc {Z:Ends} {σ:L2.St} {H:Hp} (h:Z.nx σ H):uS Z σ H:=h
theorem mR {r:List V→Hp→VK→Prop} {te:TE} {Z:Ends} {σ:L2.St} {H:Hp} (h:te σ H fun v H1=>r [v] H1 Z.rt):tRet (tCB r (bE te tNil)) Z σ H:=h
theorem jQ {r:List V→Hp→VK→Prop} {te:TE} {σ:L2.St} {H:Hp} {Q:List V→Hp→Prop} (h:te σ H fun v H1=>r [v] H1 fun u H2=>Q [u] H2):bE (tCB r (bE te tNil)) tNil σ H Q:=h
theorem j3 {te:TE} {Z:Ends} {σ:L2.St} {H:Hp} (h:te σ H Z.rt):tRet te Z σ H:=h
theorem vv {te:TE} {σ:L2.St} {H:Hp} {Q:List V→Hp→Prop} (h:te σ H fun v H1=>Q [v] H1):bE te tNil σ H Q:=h
theorem at_t {H:Hp} {v:V} {ts:List Tr} (h:TrAt H v (.tup ts)):∃a vs,v= .ref a∧H a=some (.tup vs)∧TrsAt H vs ts:=by
 unfold TrAt at h
 exact h
theorem bX {H:Hp} {x:Str}:TrAt H (.str x) (.str x):=by unfold TrAt;rfl
theorem c6 {H:Hp} {r:Addr} {vs:List V} {ts:List Tr} (h:H r=some (.tup vs)) (h1:TrsAt H vs ts):TrAt H (.ref r) (.tup ts):=by
 unfold TrAt
 exact ⟨r,vs,rfl,h,h1⟩
theorem jj {H:Hp} {v:V} {a b:Tr} (h:TrAt H v (.tup [a,b])):∃r x y,v= .ref r∧H r=some (.tup [x,y])∧TrAt H x a∧TrAt H y b:=by
 unfold TrAt at h
 obtain ⟨r,vs,e,h1,h2⟩:=h
 obtain ⟨x,r1,rfl,h3,h4⟩:=h2.inv
 obtain ⟨y,r2,rfl,h5,h6⟩:=h4.inv
 unfold TrsAt at h6
 subst h6
 exact ⟨r,x,y,e,h1,h3,h5⟩
theorem uj {H:Hp} {v:V} {a b:Int} (h:TrAt H v (.tup [.int a, .int b])):∃r,v= .ref r∧H r=some (.tup [.int a, .int b]):=by
 obtain ⟨r,x,y,e,h1,h2,h3⟩:=jj h
 unfold TrAt at h2 h3
 subst h2 h3
 exact ⟨r,e,h1⟩
theorem jI {H:Hp} {r:Addr} {x y:V} {a b:Tr} (h:H r=some (.tup [x,y])) (h1:TrAt H x a) (h2:TrAt H y b):TrAt H (.ref r) (.tup [a,b]):=by
 unfold TrAt
 exact ⟨r,_,rfl,h, .cons h1 (.cons h2 .nil)⟩
theorem cy {H:Hp} {r:Addr} {a b:Int} (h:H r=some (.tup [.int a, .int b])):TrAt H (.ref r) (.tup [.int a, .int b]):=jI h (by unfold TrAt;rfl) (by unfold TrAt;rfl)
theorem sw {H:Hp} {v:V} {p:Fr} (h:TrAt H v (frT p)):∃r,v= .ref r∧H r=some (.tup [.int p.1, .int p.2]):=uj h
theorem dI {n:Nat}:∀ {ts:List Tr},(∀t∈ts,t.depth≤n)→Trs.depth ts≤n
 | [],_=>by unfold Trs.depth;omega
 |t::ts,h=>by
  unfold Trs.depth
  have h1:=h t yn
  have h2:=dI fun u m=>h u (ym t m)
  omega
end L2
namespace K05
open PySem L2 Mth EqD
section
variable {P:Program} {w:World} {K:PySem.W.Frag} {mg:Str→Option Value} {base:Heap}
theorem xi:az ["thing"] ["thing"] (ag sCtQ):=⟨rfl,rfl,rfl,by decide +kernel,rfl,by decide +kernel,by decide +kernel⟩
theorem wb {f fT:Addr} {fd dT:FuncData} {n:Nat} {tk:Tok} (F:Fun K "are_call_terms" "are_call_terms" sCtQ f fd) (B:Blt mg) (mC:mg "MOST_IN_CALL"=some (.int 3 tk))
 (gT:FnOk P w K mg base CX0 (2*n+1) fT dT ["thing"] (spTm n)) (kT:PySem.W.keepIn K (.ref fT)=true) (bT:Binds K dT ["thing"] []) (mT:mg "is_term"=some (.ref fT)):FnOk P w K mg base CX0 (2*n+2) f fd ["thing"] (spCt n):=by
 refine F.ok xi (fun vs H Q E h=> ?_) (fun cdv A outer s H vs Q E hr h=> ?_)
 · obtain ⟨v,p,rfl,_⟩:=h
   rfl
 obtain ⟨v,p,rfl,hv,hs,hd,k⟩:=h
 refine ⟨_,ae (aM (PW.pt (bQ (aS (aJ (ao (r:=rIsi K) aN rfl B.isi am (a9 (pv 0) (a9 (aT (v:= .ty "tuple") rfl B.tu PyProof.Rows.boot_tuple rfl) aa))))) (bK (aS (gY ny ny ac (ao aU rfl B.le PySem.boot_len (a9 (pv 0) aa)) (jh (v:= .int 3) rfl mC ⟨_,rfl⟩)))))) (ai (ak bR)) aw)
  (ai (ak (ao (dQ rfl) rfl B.al PyProof.Rows.boot_all (a9 (br (NC:= ["inner"]) (mp:= [none]) rfl (fk (pv 0)) (fun _ _ _ _ _=>aQ (i:=0) (show (["inner"]:List Str).Nodup by decide +kernel) rfl (Or.inl rfl)) (fun _ _ _ _ _=>cu) (fun _ _ _ _ _=>af gT hr rfl mT kT bT .nil aj (a9 (pv 0) aa))) aa)))),?_⟩
 have hL:(20000:Nat)≤sizeLine:=by decide +kernel
 refine ⟨_,rfl,v, .ty "tuple",_,bV p,rfl,bw hv, .inl ⟨rfl,bz K p⟩,_,rfl,?_⟩
 cases p with
 |tup ts=>
  have hv':=hv
  unfold PlAt at hv'
  obtain ⟨r,vs,rfl,g,hT⟩:=hv'
  have tl:=hT.len
  have hsm:ts.length≤1000∧Sms ts:=by
   unfold Sm at hs
   exact hs
  refine iteF ?_
  refine ⟨_,rfl,r,vs,rfl, .inr (SqT.of g),_,_,rfl,rfl,_,rfl,?_⟩
  by_cases z1:(1:Int)≤(vs.length:Int)
  · rw [decide_eq_true z1]
    refine iteT ?_
    refine ⟨_,_,rfl,rfl,_,rfl,?_⟩
    by_cases z2:(vs.length:Int)≤3
    · rw [decide_eq_true z2]
      refine iteF ?_
      refine bc ?_
      dsimp only
      refine mR ?_
      refine cm rfl ?_
      refine ⟨_,rfl,r,rfl,⟨vs,SqT.of g⟩,fun D nD=> ?_⟩
      refine ia (xs:=vs) (fun i acc H'=>Same H H'∧H' D=some (.lst acc)∧acc=((ts.take i).map (tmB n)).map V.bl) ⟨ah nD,ad,rfl⟩ (fun i acc H' p=>SqT.of (p.1 _ _ g)) ?_ ?_
      · rintro i x acc H1 hi ex ⟨s1,hD,rfl⟩
        obtain ⟨t,et,ht⟩:=hT.get' ex
        have mt:=yw et
        refine ⟨_,rfl,x,t,rfl,ht.mono (Ke.of_same s1),qc hsm.2 mt,?_,fun H2 s2=> ?_⟩
        · have:=eU mt
          simp only [pdep] at hd
          omega
        · refine CompN.mk hi ?_ (s2 _ _ hD) ⟨c8 nD (s1.trans s2),ad,?_⟩
          · rw [yo,yo,yN]
            omega
          · rw [z7,et]
            simp
      · rintro acc H1 ⟨s1,hD,rfl⟩
        rw [tl,zt] at hD
        refine ⟨D,_,rfl,SqL.of hD,?_⟩
        have e:((ts.map (tmB n)).all id)=ctB n (.tup ts):=by
         rw [ctB,decide_eq_true (show (1:Int)≤(ts.length:Int) by omega),decide_eq_true (show (ts.length:Int)≤3 by omega),fX]
         simp
        rw [e]
        exact k H1 s1
    · rw [decide_eq_false z2]
      refine iteT ?_
      have e:ctB n (.tup ts)=false:=by
       rw [ctB,decide_eq_false (show¬(ts.length:Int)≤3 by omega)]
       simp
      have k':=k H (Same.refl H)
      rw [e] at k'
      exact k'
  · rw [decide_eq_false z1]
    refine iteF ⟨_,rfl,?_⟩
    refine iteT ?_
    have e:ctB n (.tup ts)=false:=by
     rw [ctB,decide_eq_false (show¬(1:Int)≤(ts.length:Int) by omega)]
     rfl
    have k':=k H (Same.refl H)
    rw [e] at k'
    exact k'
 |non=>exact iteT (k H (Same.refl H))
 |bl b=>exact iteT (k H (Same.refl H))
 |int i=>exact iteT (k H (Same.refl H))
 |str z=>exact iteT (k H (Same.refl H))
 |lst=>exact iteT (k H (Same.refl H))
 |dct=>exact iteT (k H (Same.refl H))
theorem uY {f fT fN fC:Addr} {fd dT dN dC:FuncData} {tk:Tok} (F:Fun K "is_term" "is_term" sTmQ f fd) (kF:PySem.W.keepIn K (.ref f)=true) (bF:Binds K fd ["thing"] []) (mF:mg "is_term"=some (.ref f)) (B:Blt mg) (mM:mg "MOST_IN_CALL"=some (.int 3 tk))
 (gT:FnOk P w K mg base CX0 1 fT dT ["thing","count"] spTo) (kT:PySem.W.keepIn K (.ref fT)=true) (bT:Binds K dT ["thing","count"] []) (mT:mg "is_tuple_of"=some (.ref fT))
 (gN:FnOk P w K mg base CX0 1 fN dN ["thing"] spNm) (kN:PySem.W.keepIn K (.ref fN)=true) (bN:Binds K dN ["thing"] []) (mN:mg "is_name"=some (.ref fN))
 (FC:Fun K "are_call_terms" "are_call_terms" sCtQ fC dC) (kC:PySem.W.keepIn K (.ref fC)=true) (bC:Binds K dC ["thing"] []) (mC:mg "are_call_terms"=some (.ref fC)):∀n,FnOk P w K mg base CX0 (2*n+1) f fd ["thing"] (spTm n)
 |0=>⟨fun vs H Q E ⟨_,_,_,_,_,h,_⟩=>absurd h (by omega),fun A outer s H args us vs Q E _ _ _ _ ⟨_,_,_,_,_,h,_⟩=>absurd h (by omega)⟩
 |n+1=>w6 F gT kT bT mT gN kN bN mN (wb FC B mM (uY F kF bF mF B mM gT kT bT mT gN kN bN mN FC kC bC mC n) kF bF mF) kC bC mC
end
end K05
namespace L2
open PySem PySem.Spec PyProof.Rows
section
variable {X:Cx} {tg:Expr}
end
def ItS (z:Str):It:=⟨fun i _=>i < z.cps.size,fun i H x H'=>H'=H∧∃c,z.cps[i]?=some c∧x= .str ⟨#[c]⟩,fun i _=>z.cps.size≤i⟩
theorem pC {P:Program} {w:World} {K:PySem.W.Frag} {tg:Expr} (it:Addr) (z:Str) (t:Tok) (T:String) (hT:T= "str_ascii_iterator"∨T= "str_iterator"):Turn P w K tg (ItS z) [it] it (fun i h=>i≤z.cps.size∧h.IsStrIter it T z t i) where
 mem:=by simp
 obj:=fun i h st b hb=>by
  have e:b=it:=by simpa using hb
  subst e
  obtain ⟨_,o,ho,hc,hd⟩:=st
  exact ⟨o,ho,fun v z=>by
   rw [hd] at z
   cases z⟩
 keep:=fun i h h' st k=>by
  obtain ⟨hi,o,ho,r⟩:=st
  exact ⟨hi,o,k it (by simp) o ho,r⟩
 item:=by
  intro X hP hw hK hc i pins s σ H E I hf st hg
  subst hP hw hK
  obtain ⟨f0,f1,f2,f3,f4,f5⟩:=hf it (by simp)
  have W:Walks X.prog X.w X.A it [it] [it] z.cps.size (SignAt z) (fun i h=>h.IsStrIter it T z t i):=by
   rcases hT with rfl|rfl
   · exact Walks.strAscii (I.ok.hd hc) it z t
   · exact Walks.strWide (I.ok.hd hc) it z t
  refine W.item i s _ _ hg st.2 fun v h' tk hv st' kk=> ?_
  obtain ⟨c,u,ec,rfl⟩:=hv
  have I1:Inv X pins σ H {s with heap:=h',toks:=tk}:=I.turned (fun b o hb e=>kk b o (by simpa using hb) e) f0 f1 f3 f4 f5
  obtain ⟨o,ho,hcl,hd⟩:=id st'
  refine ⟨_,rfl,o6 (s:= {s with heap:=h',toks:=tk}) (n:=T) ho hcl hd (by rcases hT with rfl|rfl<;>decide) ⟨.str ⟨#[c]⟩,H,I1,⟨u,rfl⟩,⟨rfl,c,ec,rfl⟩,⟨hg,st'⟩,fun b hb=>(hf b hb).1⟩⟩
 done:=by
  intro X hP hw hK hc i pins s σ H E I hf st hg
  subst hP hw hK
  obtain ⟨f0,f1,f2,f3,f4,f5⟩:=hf it (by simp)
  have W:Walks X.prog X.w X.A it [it] [it] z.cps.size (SignAt z) (fun i h=>h.IsStrIter it T z t i):=by
   rcases hT with rfl|rfl
   · exact Walks.strAscii (I.ok.hd hc) it z t
   · exact Walks.strWide (I.ok.hd hc) it z t
  have e:i=z.cps.size:=Nat.le_antisymm st.1 hg
  subst e
  exact W.done s _ _ st.2 fun h' tk kk=>⟨rfl,I.turned (fun b o hb e=>kk b o (by simpa using hb) e) f0 f1 f3 f4 f5⟩
 self:=fun A i s Q E st h=>by
  rcases hT with rfl|rfl
  · exact wpAny_pyIter_striter_ascii st.2 h
  · exact wpAny_pyIter_striter_wide st.2 h
section
variable {X:Cx} {tg:Expr}
def iStr (tl:TE):TI:=fun σ H R=>tl σ H fun x H1=>∃z,x= .str z∧R (ItS z) H1
theorem vS {l:Expr} {tl:TE} (hl:PE X l tl):PI X tg l (iStr tl):=by
 intro pins s σ H R I h
 refine thn (hl pins s σ H _ I h) fun v s1 ⟨x,H1,I1,r1,q1⟩=> ?_
 obtain ⟨z,e,q⟩:=q1
 subst e
 obtain ⟨t,rfl⟩:=r1
 refine wpAny_pyIter_strU ?_
 refine ⟨s1.heap.objs.size,[s1.heap.objs.size],_,_,H1,rfl,I1.kept (t':=s1.toks) fun b o e=>Heap.get?_push_of_some _ e,pC _ z t (strIterType z) (by unfold strIterType;split<;>simp),⟨yO _,_,Heap.get?_push_size _ rfl,rfl,rfl⟩,fun b hb=> ?_,q⟩
 have e:b=s1.heap.objs.size:=by simpa using hb
 subst e
 exact I1.fpOk (yl _) (I1.hok.fresh (yl _))
end
end L2
namespace Tre
open PySem PySem.Spec PyProof.Rows L2
section
variable {X:Cx}
def rEqT:R2:=fun x y H Q=>∃ts us,TrAt H x (.tup ts)∧TrAt H y (.tup us)∧(Trs.pure ts∨Trs.pure us)∧Trs.depth ts≤40∧Q (.bl (eqTs ts us)) H
theorem kK {pins:List (Addr×Obj)} {σ:L2.St} {H:Hp} {s:Shared} {A:Around} {ts us:List Tr} {vs ws:List V} {as bs:List Value} (I:Inv X pins σ H s) (hu:A.units+42 < cLine) (h1:TrsAt H vs ts) (h2:TrsAt H ws us) (hp:Trs.pure ts∨Trs.pure us) (hd:Trs.depth ts≤40) (r1:Vals vs as) (r2:Vals ws bs)
 (j:Nat) (g1:j < as.toArray.size) (g2:j < bs.toArray.size):SeqAt.EqAt A s as.toArray[j] bs.toArray[j] (eqJ ts us j):=by
 have l1:=h1.len
 have l2:=h2.len
 have l3:=r1.length
 have l4:=r2.length
 have h1':j < as.length:=by simpa using g1
 have h2':j < bs.length:=by simpa using g2
 have t1:ts[j]?=some (ts[j]'(by omega)):=yj _
 have t2:us[j]?=some (us[j]'(by omega)):=yj _
 obtain ⟨v,e1,a1⟩:=h1.get t1
 obtain ⟨w,e2,a2⟩:=h2.get t2
 obtain ⟨u1,e3,q1⟩:=r1.get e1
 obtain ⟨u2,e4,q2⟩:=r2.get e2
 have z1:as.toArray[j]=u1:=by rw [List.getElem_toArray];rw [yj h1'] at e3;exact yP e3
 have z2:bs.toArray[j]=u2:=by rw [List.getElem_toArray];rw [yj h2'] at e4;exact yP e4
 rw [z1,z2,rP t1 t2]
 refine j5 I 40 ?_ ?_ a1 a2 q1 q2 (by omega)
 · have:=bq (yw t1)
   omega
 · rcases hp with hp|hp
   · exact .inl (dk hp (yw t1))
   · exact .inr (dk hp (yw t2))
theorem qQ (hu:X.A.units+50 < cLine):OpR X (compareOp .Eq) rEqT:=by
 intro pins s σ H x y v u Q I rx ry h
 obtain ⟨ts,us,h1,h2,hp,hd,q⟩:=h
 unfold TrAt at h1 h2
 obtain ⟨a,vs,rfl,g1,k1⟩:=h1
 obtain ⟨b,ws,rfl,g2,k2⟩:=h2
 cases rx
 cases ry
 obtain ⟨as,r1,p1,_⟩:=I.tuple (SqT.of g1)
 obtain ⟨bs,r2,p2,_⟩:=I.tuple (SqT.of g2)
 refine PySem.SeqAt.eq_tupleAt (e:=eqJ ts us) (show s.heap.IsTuple a as.toArray from p1) (show s.heap.IsTuple b bs.toArray from p2) (by omega) (fun j g1 g2=>kK I (by first|omega|(show X.A.units+1+42 < cLine;omega)) k1 k2 hp hd r1 r2 j g1 g2) ?_
 refine ⟨.bl (eqTs ts us),H,I,?_,q⟩
 rw [yp,yp,←r1.length,←r2.length,k1.len,k2.len,←dq]
 rfl
end
end Tre
namespace L2
open PySem PySem.Spec PyProof.Rows
section
variable {X:Cx}
def vO:R2:=fun x y H Q=>∃l b xs,x= .ref l∧y= .ref b∧H l=some (.lst xs)∧H b=some (.lst [])∧Q (.bl xs.isEmpty) H
theorem hG (hu:X.A.units+1 < cLine):OpR X (compareOp .Eq) vO:=by
 intro pins s σ H x y v u Q I rx ry h
 obtain ⟨l,b,xs,rfl,rfl,hH,hB,q⟩:=h
 cases rx
 cases ry
 obtain ⟨its,r,pl,_⟩:=I.list (SqL.of hH)
 obtain ⟨its2,r2,pl2,_⟩:=I.list (SqL.of hB)
 cases r2
 have fin:∀k:Bool,k=xs.isEmpty→EP X pins σ Q (.bool k) s:=fun k e=>by subst e;exact ⟨.bl _,H,I,rfl,q⟩
 cases r with
 |nil=>exact SeqAt.RcAt.lists (e:=fun _=>true) pl.isList pl2.isList rfl (by omega) (fun j h1 _=>absurd h1 (by simp)) X.prog X.w X.xe _ (fin _ rfl)
 |cons r1 r2=>exact SeqAt.RcAt.lists_lengths pl.isList pl2.isList (by simp) (by omega) X.prog X.w X.xe _ (fin _ rfl)
end
end L2
namespace K05
open PySem L2 Mth EqD
theorem pi {z:Str} {D:Addr} {tc:TT} {te:TE} {rest:L2.St} {Q:VK} {H1:Hp} (Pv:Nat→List V→Hp→Prop) (h0:Pv 0 [] (upd H1 D (.lst [])))
 (hs:∀i c acc H,i < z.cps.size→z.cps[i]?=some c→Pv i acc H→tc (some (.str ⟨#[c]⟩)::rest) H fun b H5=>if b=true then te (some (.str ⟨#[c]⟩)::rest) H5 (CompN z.cps.size i D acc Pv) else CompS z.cps.size i acc Pv H5)
 (hd:∀acc H,Pv z.cps.size acc H→Q (.ref D) H):jK (ItS z) D tc te rest Q H1:=by
 refine ⟨fun i m acc H=>m=z.cps.size - i∧i≤z.cps.size∧Pv i acc H,⟨z.cps.size,by simp,yO _,h0⟩,?_⟩
 rintro i m acc H ⟨rfl,hi,p⟩
 by_cases hlt:i < z.cps.size
 · refine .inr ⟨hlt,fun x H' y=>⟨ext1,?_⟩⟩
   obtain ⟨e,c,ec,rfl⟩:=y
   subst e
   exact hs i c acc _ hlt ec p
 · have e:i=z.cps.size:=by omega
   subst e
   exact .inl ⟨yl _,hd acc H p⟩
theorem lL {r:R2} {ta tb:TE} {σ:L2.St} {H:Hp} {Q:VK} (h:ta σ H fun x H1=>tb σ H1 fun y H2=>r x y H2 Q):tOp r ta tb σ H Q:=h
def abq:Str:=Str.ofString "abcdefghijklmnopqrstuvwxyz"
theorem uL:∀c:Nat,c < 128→(Builtin.Str.occurrences abq ⟨#[c]⟩ 0 abq.length 1).isEmpty= !decide (97≤c∧c≤122):=by decide +kernel
def Asc (x:Str):Prop:=∀c∈x.cps.toList,c < 128
noncomputable def lnB:Pl→Bool
 | .str x=>decide (x.length≠0)&& (decide (x.length≤8)&&x.cps.toList.all fun c=>decide (97≤c∧c≤122))
 |_=>false
theorem rg (p:Pl):nmB p=lnB p:=by
 cases p with
 |str x=>
  show (!decide _&& (_&& (_&&_)))=(decide _&& (decide _&&_))
  rw [zc]
  have h:=qZ x
  simp only [yH,Bool.not_eq_true',decide_eq_false_iff_not,decide_eq_true_eq,z5] at h ⊢
  rw [h]
  constructor
  · rintro ⟨a,b,c⟩
    exact ⟨by omega,by omega,c⟩
  · rintro ⟨a,b,c⟩
    exact ⟨by omega,by omega,c⟩
 |non=>rfl
 |bl b=>rfl
 |int i=>rfl
 |tup ts=>rfl
 |lst=>rfl
 |dct=>rfl
section
variable {P:Program} {w:World} {K:PySem.W.Frag} {mg:Str→Option Value} {base:Heap}
def spLN:Sp:=fun vs H Q _=>∃(v:V) (p:Pl),vs= [v]∧PlAt H v p∧(∀x,p= .str x→x.length≤1000∧Asc x)∧∀H',Same H H'→Q (.bl (lnB p)) H'
theorem scLN:az ["_law_thing"] ["_law_thing"] (ag sLNm):=⟨rfl,rfl,rfl,by decide +kernel,rfl,by decide +kernel,by decide +kernel⟩
theorem xJ {f:Addr} {fd:FuncData} (F:Fun K "_law_is_name" "_law_is_name" sLNm f fd) (B:Blt mg):FnOk P w K mg base CX0 1 f fd ["_law_thing"] spLN:=by
 refine F.ok scLN (fun vs H Q E h=> ?_) (fun cdv A outer s H vs Q E hr h=> ?_)
 · obtain ⟨v,p,rfl,_⟩:=h
   rfl
 obtain ⟨v,p,rfl,hv,hsm,k⟩:=h
 have hu1:=i5 hr
 refine ⟨_,ae (aM (PW.pt (bQ (aS (aJ (ao (r:=rIsi K) aN rfl B.isi am (a9 (pv 0) (a9 (aT (v:= .ty "str") rfl B.st PyProof.Rows.boot_str rfl) aa))))) (bQ (aE cf (ao df rfl B.le PySem.boot_len (a9 (pv 0) aa)) ac (ax _)) (bK (aE iK (ao df rfl B.le PySem.boot_len (a9 (pv 0) aa)) ac (ax _)))))) (ai (ak bR)) aw)
  (ai (ak (aY (hG hu1) (br (NC:= ["_law_sign"]) (mp:= [none]) rfl (vS (pv 0)) (fun _ _ _ _ _=>aQ (i:=0) (show (["_law_sign"]:List Str).Nodup by decide +kernel) rfl (Or.inl rfl)) (fun _ _ _ _ _=>eO (aE jo (pv 0) aG (by with_unfolding_all rfl))) (fun _ _ _ _ _=>pv 0)) (aR aa) (ax _)))),?_⟩
 have hL:(20000:Nat)≤sizeLine:=by decide +kernel
 refine ⟨_,rfl,v, .ty "str",_,i3 p,rfl,bw hv, .inl ⟨rfl,gj K p⟩,_,rfl,?_⟩
 cases p with
 |str x=>
  unfold PlAt at hv
  subst hv
  obtain ⟨hx,hasc⟩:=hsm x rfl
  refine iteF ?_
  refine ⟨_,rfl,x,rfl,by omega,rfl,_,rfl,?_⟩
  by_cases z0:(x.length:Int)=0
  · rw [decide_eq_true (congrArg V.int z0)]
    refine iteT ?_
    refine iteT ?_
    have e:lnB (.str x)=false:=by
     show (decide _&&_)=false
     rw [decide_eq_false (show¬x.length≠0 by omega)]
     rfl
    have k':=k H (Same.refl H)
    rw [e] at k'
    exact k'
  · rw [decide_eq_false (fun q=>z0 (V.int.inj q))]
    refine iteF ?_
    refine ⟨_,rfl,x,rfl,by omega,_,8,rfl,rfl,_,rfl,?_⟩
    by_cases z8:(8:Int) < (x.length:Int)
    · rw [decide_eq_true z8]
      refine iteT ?_
      have e:lnB (.str x)=false:=by
       show (decide _&& (decide _&&_))=false
       rw [decide_eq_false (show¬x.length≤8 by omega)]
       simp
      have k':=k H (Same.refl H)
      rw [e] at k'
      exact k'
    · rw [decide_eq_false z8]
      refine iteF ?_
      refine bc ?_
      try dsimp only
      refine j3 ?_
      refine lL ?_
      refine cN rfl ?_
      refine ⟨_,rfl,x,rfl,fun D nD=> ?_⟩
      have esz:x.cps.size=x.length:=rfl
      refine pi (fun i acc H'=>Same H H'∧H' D=some (.lst acc)∧acc=((x.cps.toList.take i).filter fun c=> !decide (97≤c∧c≤122)).map fun c=>V.str ⟨#[c]⟩) ⟨ah nD,ad,rfl⟩ ?_ ?_
      · rintro i c acc H1 hi ec ⟨s1,hD,rfl⟩
        have ec':x.cps.toList[i]?=some c:=by rw [yK];exact ec
        have hc:=hasc c (yw ec')
        have et:x.cps.toList.take (i+1)=x.cps.toList.take i++ [c]:=by rw [z7,ec'];rfl
        have al:(((x.cps.toList.take i).filter fun c=> !decide (97≤c∧c≤122)).map fun c=>V.str ⟨#[c]⟩).length≤1000:=by
         rw [yo]
         refine yU (List.length_filter_le _ _) ?_
         rw [yN]
         omega
        refine ⟨_,rfl,⟨#[c]⟩,abq,rfl,rfl,_,rfl,?_⟩
        rw [uL c hc]
        by_cases z:97≤c∧c≤122
        · rw [decide_eq_true z]
          refine iteF (CompS.mk hi ⟨s1,hD,?_⟩)
          rw [et,List.filter_append,List.filter_cons,decide_eq_true z]
          simp
        · rw [decide_eq_false z]
          refine iteT ⟨_,rfl,CompN.mk hi (by omega) hD ⟨c8 nD s1,ad,?_⟩⟩
          rw [et,List.filter_append,List.filter_cons,decide_eq_false z]
          simp
      · rintro acc H1 ⟨s1,hD,rfl⟩
        have el:x.cps.toList.take x.cps.size=x.cps.toList:=zg (by rw [yy];exact yl _)
        rw [el] at hD
        refine ⟨by show 0≤sizeLine;decide,fun L nL=> ?_⟩
        have sL:=ah (o:= .lst []) nL
        refine ⟨D,L,_,rfl,rfl,sL _ _ hD,ad,?_⟩
        have e:((x.cps.toList.filter fun c=> !decide (97≤c∧c≤122)).map fun c=>V.str ⟨#[c]⟩).isEmpty=lnB (.str x):=by
         show _=(decide _&& (decide _&&_))
         rw [decide_eq_true (show x.length≠0 by omega),decide_eq_true (show x.length≤8 by omega)]
         show _=(true&& (true&&_))
         rw [Bool.true_and,Bool.true_and,zc,List.isEmpty_iff,List.map_eq_nil_iff,List.filter_eq_nil_iff,z5]
         constructor
         · intro h c m
           have:=h c m
           simpa using this
         · intro h c m
           have:=h c m
           rw [this]
           simp
        rw [e]
        exact k _ (s1.trans sL)
 |non=>exact iteT (iteT (k H (Same.refl H)))
 |bl b=>exact iteT (iteT (k H (Same.refl H)))
 |int i=>exact iteT (iteT (k H (Same.refl H)))
 |tup ts=>exact iteT (iteT (k H (Same.refl H)))
 |lst=>exact iteT (iteT (k H (Same.refl H)))
 |dct=>exact iteT (iteT (k H (Same.refl H)))
end
end K05
namespace L2
open PySem Tre
noncomputable def fR (f:Expr→Option Tr):List Expr→Option (List Tr)
 | []=>some []
 |e::es=>match f e,fR f es with
  |some t,some ts=>some (t::ts)
  |_,_=>none
noncomputable def litE:Nat→Expr→Option Tr
 |0,_=>none
 |n+1,e=>match e with
  | .Constant (.str x) _ _=>some (.str x)
  | .Constant (.int i) _ _=>some (.int i)
  | .UnaryOp .USub (.Constant (.int i) _ _) _=>some (.int (-i))
  | .Tuple es _ _=>if es.length≤100 then (fR (litE n) es).map .tup else none
  |_=>none
def tLit (t:Tr):TE:=fun _ H Q=>∀v H',Same H H'→TrAt H' v t→Q v H'
def x8 (ts:List Tr):TA:=fun _ H Q=>∀vs H',Same H H'→TrsAt H' vs ts→Q vs H'
section
variable {X:Cx}
theorem PE.imp {e:Expr} {t u:TE} (h:PE X e t) (k:∀σ H Q,u σ H Q→t σ H Q):PE X e u:=fun pins s σ H Q I q=>h pins s σ H Q I (k σ H Q q)
theorem PA.imp {es:List Expr} {t u:TA} (h:PA X es t) (k:∀σ H Q,u σ H Q→t σ H Q):PA X es u:=fun pos pins s σ H Q I q=>h pos pins s σ H Q I (k σ H Q q)
theorem cj {H:Hp} {p:Addr} {o:HO} (h:H p=none):Same H (upd H p o):=fun b u e=>by
 rw [aF (aK e h)]
 exact e
theorem Same.none {H H':Hp} {p:Addr} (s:Same H H') (h:H' p=none):H p=none:=by
 cases e:H p with
 |none=>rfl
 |some o=>rw [s p o e] at h;cases h
theorem kz:∀ {n:Nat} {es:List Expr} {ts:List Tr},fR (litE n) es=some ts→ts.length=es.length
 |n,[],ts,h=>by
  rw [fR] at h
  cases h
  rfl
 |n,e::es,ts,h=>by
  rw [fR] at h
  split at h
  · rename_i t us h1 h2
    cases h
    rw [yC,yC,kz h2]
  · cases h
theorem tL:∀n,∀e t,litE n e=some t→PE X e (tLit t)∧∀es,starEach (e::es) X.env=(false,eval e X.env)::starEach es X.env:=by
 intro n
 induction n with
 |zero=>
  intro e t h
  rw [litE] at h
  cases h
 |succ n ih=>
  have many:∀es ts,fR (litE n) es=some ts→PA X es (x8 ts):=by
   intro es
   induction es with
   |nil=>
    intro ts h
    rw [fR] at h
    cases h
    exact PA.imp aa fun σ H Q q=>q [] H (Same.refl H) .nil
   |cons e es ih2=>
    intro ts h
    rw [fR] at h
    split at h
    · rename_i t us h1 h2
      cases h
      obtain ⟨a1,a2⟩:=ih e t h1
      refine PA.imp (a9 a1 (ih2 us h2) (a2 es)) fun σ H Q q=> ?_
      intro v H1 s1 hv ws H2 s2 hw
      exact q (v::ws) H2 (s1.trans s2) (.cons (hv.mono (Kd.of_same s2)) hw)
    · cases h
  intro e t h
  unfold litE at h
  split at h
  · cases h
    exact ⟨PE.imp aG fun σ H Q q=>q _ H (Same.refl H) bX,fun es=>rfl⟩
  · cases h
    exact ⟨PE.imp ac fun σ H Q q=>q _ H (Same.refl H) (by unfold TrAt;rfl),fun es=>rfl⟩
  · cases h
    exact ⟨PE.imp (nn iZ ac) fun σ H Q q=>⟨_,rfl,q _ H (Same.refl H) (by unfold TrAt;rfl)⟩,fun es=>rfl⟩
  · rename_i es k pos
    split at h
    · rename_i hl
      obtain ⟨ts,h1,h2⟩:=yR.mp h
      cases h2
      refine ⟨PE.imp (aX (many es ts h1)) fun σ H Q q=> ?_,fun es=>rfl⟩
      intro vs H1 s1 hv
      have l1:=hv.len
      have l2:=kz h1
      refine ⟨by have:(100:Nat)≤sizeLine:=by decide +kernel
                 omega,fun p np=> ?_⟩
      have s2:=cj (o:= .tup vs) np
      exact q (.ref p) _ (s1.trans s2) (c6 ad (hv.mono (Kd.of_same s2)))
    · cases h
  · cases h
theorem lV (n:Nat) {e:Expr} {t:Tr} (h:litE n e=some t):PE X e (tLit t):=(tL n e t h).1
end
end L2
namespace K05
open PySem L2 Mth EqD
theorem iQ {K:PySem.W.Frag} {a D:Addr} {xs:List V} {tc:TT} {te:TE} {rest:L2.St} {Q:VK} {H1:Hp} (Pv:Nat→List V→Hp→Prop) (h0:Pv 0 [] (upd H1 D (.lst [])))
 (hl:∀i acc H,Pv i acc H→SqT K H a xs)
 (hs:∀i x acc H,i < xs.length→xs[i]?=some x→Pv i acc H→tc (some x::rest) H fun b H5=>if b=true then te (some x::rest) H5 (CompN xs.length i D acc Pv) else CompS xs.length i acc Pv H5)
 (hd:∀acc H,Pv xs.length acc H→Q (.ref D) H):jK (Itt K a) D tc te rest Q H1:=by
 refine ⟨fun i m acc H=>m=xs.length - i∧i≤xs.length∧Pv i acc H,⟨xs.length,by simp,yO _,h0⟩,?_⟩
 rintro i m acc H ⟨rfl,hi,p⟩
 by_cases hlt:i < xs.length
 · refine .inr ⟨⟨xs,xs[i],hl i acc H p,by simp [hlt]⟩,fun x H' y=>⟨ext1,?_⟩⟩
   obtain ⟨e,y⟩:=y
   subst e
   exact hs i x acc _ hlt (y xs (hl i acc _ p)) p
 · have e:i=xs.length:=by omega
   subst e
   exact .inl ⟨⟨xs,hl _ acc H p,yl _⟩,hd acc H p⟩
mutual
def SA:Pl→Prop
 | .str x=>x.length≤1000∧Asc x
 | .tup ts=>ts.length≤1000∧SAs ts
 |_=>True
def SAs:List Pl→Prop
 | []=>True
 |t::ts=>SA t∧SAs ts
end
theorem qj:∀ {ts:List Pl} {t:Pl},SAs ts→t∈ts→SA t
 |a::ts,t,h,m=>by
  unfold SAs at h
  rcases yk.mp m with rfl|m
  · exact h.1
  · exact qj h.2 m
theorem qh {p:Pl} (h:SA p):∀x,p= .str x→x.length≤1000∧Asc x:=fun x e=>by
 subst e
 unfold SA at h
 exact h
noncomputable def hdB (z:Str) (n:Int):Pl→Bool
 | .tup ts=>decide ((ts.length:Int)=n)&& (match ts with|a::_=>isS z a| []=>false)
 |_=>false
theorem ui {z:Str} {p:Pl} (h:i3 p=false):isS z p=false:=by cases p<;>first|rfl|cases h
section
variable {P:Program} {w:World} {K:PySem.W.Frag} {mg:Str→Option Value} {base:Heap}
def spHd:Sp:=fun vs H Q _=>∃(v:V) (p:Pl) (z:Str) (n:Int),vs= [v, .str z, .int n]∧PlAt H v p∧1≤n∧Q (.bl (hdB z n p)) H
theorem scHd:az ["_law_thing","_law_word","_law_many"] ["_law_thing","_law_word","_law_many"] (ag iE):=⟨rfl,rfl,rfl,by decide +kernel,rfl,by decide +kernel,by decide +kernel⟩
theorem xL {f:Addr} {fd:FuncData} (F:Fun K "_law_headed" "_law_headed" iE f fd) (B:Blt mg):FnOk P w K mg base CX0 1 f fd ["_law_thing","_law_word","_law_many"] spHd:=by
 refine F.ok scHd (fun vs H Q E h=> ?_) (fun cdv A outer s H vs Q E hr h=> ?_)
 · obtain ⟨v,p,z,n,rfl,_⟩:=h
   rfl
 obtain ⟨v,p,z,n,rfl,hv,h1,k⟩:=h
 have hu0:=yG (yW (show 0≤64 by decide) _) hr.units
 refine ⟨_,ae (aM (PW.pt (bQ (aS (aJ (ao (r:=rIsi K) aN rfl B.isi am (a9 (pv 0) (a9 (aT (v:= .ty "tuple") rfl B.tu PyProof.Rows.boot_tuple rfl) aa))))) (bK (aE kh (ao aU rfl B.le PySem.boot_len (a9 (pv 0) aa)) (pv 2) (ax _))))) (ai (ak bR)) aw)
  (ai (ak (b7 (ao (r:=rIsi K) aN rfl B.isi am (a9 (aq ar (pv 0) ac fun _ _=>rfl) (a9 (aT (v:= .ty "str") rfl B.st PyProof.Rows.boot_str rfl) aa))) (bn (aY (cW hu0) (aq ar (pv 0) ac fun _ _=>rfl) (pv 1) (ax _)))))),?_⟩
 refine ⟨_,rfl,v, .ty "tuple",_,bV p,rfl,bw hv, .inl ⟨rfl,bz K p⟩,_,rfl,?_⟩
 cases p with
 |tup ts=>
  have hv':=hv
  unfold PlAt at hv'
  obtain ⟨r,vs,rfl,g,hT⟩:=hv'
  have tl:=hT.len
  refine iteF ?_
  refine ⟨_,rfl,r,vs,rfl, .inr (SqT.of g),_,rfl,rfl,_,rfl,?_⟩
  by_cases zn:(vs.length:Int)=n
  · rw [decide_eq_true (congrArg V.int zn)]
    refine iteF ?_
    cases ts with
    |nil=>
     rw [zm] at tl
     omega
    |cons a l=>
     obtain ⟨x,rs,rfl,hx,_⟩:=hT.inv
     have e:hdB z n (.tup (a::l))=isS z a:=by
      show (decide _&&_)=_
      rw [decide_eq_true (show ((a::l).length:Int)=n by omega)]
      rfl
     rw [e] at k
     refine ⟨_,rfl,r,_,0,x,rfl,rfl,SqT.of g,be (j:=0) rfl,x, .ty "str",_,i3 a,rfl,bw hx, .inl ⟨rfl,gj K a⟩,_,rfl,?_⟩
     cases ea:i3 a with
     |false=>
      rw [ui ea] at k
      exact iteF k
     |true=>exact iteT ⟨_,rfl,r,_,0,x,rfl,rfl,SqT.of g,be (j:=0) rfl,_,rfl,a,z,hx,rfl,k⟩
  · rw [decide_eq_false (fun q=>zn (V.int.inj q))]
    refine iteT ?_
    have e:hdB z n (.tup ts)=false:=by
     show (decide _&&_)=false
     rw [decide_eq_false (show¬(ts.length:Int)=n by omega)]
     rfl
    rw [e] at k
    exact k
 |non=>exact iteT (iteT k)
 |bl b=>exact iteT (iteT k)
 |int i=>exact iteT (iteT k)
 |str z=>exact iteT (iteT k)
 |lst=>exact iteT (iteT k)
 |dct=>exact iteT (iteT k)
end
open PySem L2 Mth EqD Tre
theorem wX (L:Int):([Tr.int 1, .int 2, .int 3].any fun u=>eqT u (.int L))=decide (1≤L∧L≤3):=by
 rw [zc]
 simp only [List.any_cons,List.any_nil,eqT,Bool.or_false,Bool.or_eq_true,beq_iff_eq,decide_eq_true_eq]
 constructor
 · rintro (h|h|h)<;>omega
 · rintro ⟨a,b⟩
   omega
theorem wS:∀u∈ [Tr.int 1, .int 2, .int 3],u.depth≤40:=fun u m=>by
 simp only [yk,yq,or_false] at m
 rcases m with rfl|rfl|rfl<;>simp [Tr.depth]
section
variable {P:Program} {w:World} {K:PySem.W.Frag} {mg:Str→Option Value} {base:Heap}
def spLT (n:Nat):Sp:=fun vs H Q _=>∃(v:V) (p:Pl),vs= [v]∧PlAt H v p∧SA p∧pdep p < n∧∀H',Same H H'→Q (.bl (tmB n p)) H'
theorem scLT:az ["_law_thing"] ["_law_thing"] (ag sLTm):=⟨rfl,rfl,rfl,by decide +kernel,rfl,by decide +kernel,by decide +kernel⟩
theorem xI {f fH fN:Addr} {fd dH dN:FuncData} (F:Fun K "_law_is_term" "_law_is_term" sLTm f fd) (bF:Binds K fd ["_law_thing"] []) (mF:mg "_law_is_term"=some (.ref f)) (B:Blt mg)
 (gH:FnOk P w K mg base CX0 1 fH dH ["_law_thing","_law_word","_law_many"] spHd) (kH:PySem.W.keepIn K (.ref fH)=true) (bH:Binds K dH ["_law_thing","_law_word","_law_many"] []) (mH:mg "_law_headed"=some (.ref fH))
 (gN:FnOk P w K mg base CX0 1 fN dN ["_law_thing"] spLN) (kN:PySem.W.keepIn K (.ref fN)=true) (bN:Binds K dN ["_law_thing"] []) (mN:mg "_law_is_name"=some (.ref fN)):
 ∀n,FnOk P w K mg base CX0 (n+1) f fd ["_law_thing"] (spLT n):=by
 intro n
 induction n with
 |zero=>exact ⟨fun vs H Q E ⟨_,_,_,_,_,h,_⟩=>absurd h (by omega),fun A outer s H args us vs Q E _ _ _ _ ⟨_,_,_,_,_,h,_⟩=>absurd h (by omega)⟩
 |succ n ih=>
  refine F.ok scLT (fun vs H Q E h=> ?_) (fun cdv A outer s H vs Q E hr h=> ?_)
  · obtain ⟨v,p,rfl,_⟩:=h
    rfl
  obtain ⟨v,p,rfl,hv,hs,hd,k⟩:=h
  have hr1:Room 1 _:=hr.mono (by omega)
  have hun:=hr.units
  have hu1:=i5 hr
  have hu50:=yG (yW (show 50≤64 by decide) _) hun
  refine ⟨_,ae (aM (aJ (af gH hr1 rfl mH kH bH .nil aj (a9 (pv 0) (a9 aG (a9 ac aa))))) (ai (ak (af gN hr1 rfl mN kN bN .nil aj (a9 (aq ar (pv 0) ac fun _ _=>rfl) aa)))) aw)
   (ae (aM (PW.pt (bQ (aS (aJ (af gH hr1 rfl mH kH bH .nil aj (a9 (pv 0) (a9 aG (a9 ac aa)))))) (bK (aS (aJ (ao (r:=rIsi K) aN rfl B.isi am (a9 (aq ar (pv 0) ac fun _ _=>rfl) (a9 (aT (v:= .ty "tuple") rfl B.tu PyProof.Rows.boot_tuple rfl) aa)))))))) (ai (ak bR)) aw)
   (ae (aM (PW.pt (bQ (aS (aJ (af gN hr1 rfl mN kN bN .nil aj (a9 (aq ar (pv 0) ac fun _ _=>rfl) aa)))) (bK (aE (tQ hu50) (ao aU rfl B.le PySem.boot_len (a9 (aq ar (pv 0) ac fun _ _=>rfl) aa)) (lV 9 rfl) (by with_unfolding_all rfl))))) (ai (ak bR)) aw)
   (ai (ak (aY (hG hu1) (br (NC:= ["_law_one"]) (mp:= [none]) rfl (fk (aq ar (pv 0) ac fun _ _=>rfl)) (fun _ _ _ _ _=>aQ (i:=0) (show (["_law_one"]:List Str).Nodup by decide +kernel) rfl (Or.inl rfl)) (fun _ _ _ _ _=>eO (aS (aJ (af ih hr rfl mF F.kp bF .nil aj (a9 (pv 0) aa))))) (fun _ _ _ _ _=>pv 0)) (aR aa) (ax _)))))),?_⟩
  have hL:(20000:Nat)≤sizeLine:=by decide +kernel
  have two:∀ {a b:Pl},hdB "name" 2 (.tup [a,b])=isS "name" a∧hdB "call" 3 (.tup [a,b])=false:=fun {a b}=>⟨by simp [hdB],by simp [hdB]⟩
  have three:∀ {a b c:Pl},hdB "name" 2 (.tup [a,b,c])=false∧hdB "call" 3 (.tup [a,b,c])=isS "call" a:=fun {a b c}=>⟨by simp [hdB],by simp [hdB]⟩
  rcases fK p with ⟨a,b,rfl⟩|⟨a,b,c,rfl⟩|⟨e2,e3,et⟩
  · obtain ⟨r,x,y,rfl,g,hx,hy⟩:=pl2 hv
    have hs2:SA b:=by
     unfold SA SAs SAs SAs at hs
     exact hs.2.2.1
    have kk:∀H',Same H H'→Q (.bl (isS "name" a&&nmB b)) H':=fun H' s'=>by
     have:=k H' s'
     rw [tmB] at this
     exact this
    refine ⟨_,rfl, .ref r,_,_,2,rfl,hv,by decide,_,rfl,?_⟩
    rw [two.1]
    cases e:isS "name" a with
    |true=>
     rw [e] at kk
     refine iteT ⟨_,rfl,r,_,1,y,rfl,rfl,SqT.of g,rfl,y,b,rfl,hy,qh hs2,fun H1 s1=> ?_⟩
     rw [←rg]
     exact kk H1 s1
    |false=>
     rw [e] at kk
     refine iteF ?_
     refine ⟨_,rfl, .ref r,_,_,3,rfl,hv,by decide,_,rfl,?_⟩
     rw [two.2]
     exact iteT (iteT (kk H (Same.refl H)))
  · obtain ⟨r,x,y,z,rfl,g,hx,hy,hz⟩:=pl3 hv
    have hs2:SA b∧SA c:=by
     unfold SA SAs SAs SAs SAs at hs
     exact ⟨hs.2.2.1,hs.2.2.2.1⟩
    have hd2:pdep c < n+1:=by
     simp only [pdep,psdep] at hd
     omega
    have kk:∀H',Same H H'→Q (.bl (isS "call" a&& (nmB b&&ctB n c))) H':=fun H' s'=>by
     have:=k H' s'
     rw [tmB] at this
     exact this
    refine ⟨_,rfl, .ref r,_,_,2,rfl,hv,by decide,_,rfl,?_⟩
    rw [three.1]
    refine iteF ?_
    refine ⟨_,rfl, .ref r,_,_,3,rfl,hv,by decide,_,rfl,?_⟩
    rw [three.2]
    cases e:isS "call" a with
    |false=>
     rw [e] at kk
     exact iteT (iteT (kk H (Same.refl H)))
    |true=>
     rw [e] at kk
     refine iteF ?_
     refine ⟨_,rfl,r,_,2,z,rfl,rfl,SqT.of g,rfl,z, .ty "tuple",_,bV c,rfl,bw hz, .inl ⟨rfl,bz K c⟩,_,rfl,?_⟩
     have nt:bV c=false→ctB n c=false:=fun h=>by cases c<;>first|(cases h;done)|(rw [ctB];intro ts q;cases q)
     cases ec:bV c with
     |false=>
      refine iteT ?_
      have k':=kk H (Same.refl H)
      rw [nt ec,Bool.and_false,Bool.and_false] at k'
      exact k'
     |true=>
      cases c with
      |tup ts=>
       refine iteF ?_
       have hz':=hz
       unfold PlAt at hz'
       obtain ⟨q,vs,rfl,gq,hT⟩:=hz'
       have tl:=hT.len
       have hst:ts.length≤1000∧SAs ts:=by
        have:=hs2.2
        unfold SA at this
        exact this
       refine ⟨_,rfl,r,_,1,y,rfl,rfl,SqT.of g,rfl,y,b,rfl,hy,qh hs2.1,fun H1 s1=> ?_⟩
       refine ⟨_,rfl,?_⟩
       rw [←rg]
       cases eb:nmB b with
       |false=>
        rw [eb] at kk
        exact iteT (iteT (kk H1 s1))
       |true=>
        rw [eb] at kk
        refine iteF ?_
        refine ⟨_,rfl,r,_,2, .ref q,rfl,rfl,SqT.of (s1 _ _ g),rfl,q,vs,rfl, .inr (SqT.of (s1 _ _ gq)),fun vT H2 s2 hT2=> ?_⟩
        obtain ⟨p2,xs2,rfl,hp2,hx2⟩:=at_t hT2
        refine ⟨p2,xs2,_, .int (vs.length:Int),rfl, .inr hp2,hx2,(by unfold TrAt;rfl),wS,trivial,_,rfl,?_⟩
        rw [wX]
        have s12:=s1.trans s2
        by_cases z3:(1:Int)≤(vs.length:Int)∧(vs.length:Int)≤3
        · rw [decide_eq_true z3]
          refine iteF ?_
          refine bc ?_
          try dsimp only
          refine j3 ?_
          refine lL ?_
          refine cN rfl ?_
          refine ⟨_,rfl,r,_,2, .ref q,rfl,rfl,SqT.of (s12 _ _ g),rfl,q,rfl,⟨vs,SqT.of (s12 _ _ gq)⟩,fun D nD=> ?_⟩
          refine iQ (xs:=vs) (fun i acc H'=>Same H2 H'∧H' D=some (.lst acc)∧acc.length≤i∧acc.isEmpty=(ts.take i).all (tmB n)) ⟨ah nD,ad,yl _,rfl⟩ (fun i acc H' p=>SqT.of (p.1 _ _ (s12 _ _ gq))) ?_ ?_
          · rintro i u acc H3 hi eu ⟨s3,hD,al,ea⟩
            obtain ⟨t,et,ht⟩:=hT.get' eu
            have mt:=yw et
            have etk:(ts.take (i+1)).all (tmB n)=((ts.take i).all (tmB n)&&tmB n t):=by
             rw [z7,et,List.all_append]
             simp
            refine ⟨_,rfl,u,t,rfl,ht.mono (Ke.of_same (s12.trans s3)),qj hst.2 mt,?_,fun H4 s4=> ?_⟩
            · have:=eU mt
              simp only [pdep] at hd2
              omega
            · refine ⟨_,rfl,?_⟩
              cases etm:tmB n t with
              |true=>
               refine iteF (CompS.mk hi ⟨s3.trans s4,s4 _ _ hD,by omega,?_⟩)
               rw [etk,etm,Bool.and_true]
               exact ea
              |false=>
               refine iteT ⟨_,rfl,CompN.mk hi (by omega) (s4 _ _ hD) ⟨c8 nD (s3.trans s4),ad,by rw [yt,yJ];omega,?_⟩⟩
               rw [etk,etm,Bool.and_false]
               simp
          · rintro acc H3 ⟨s3,hD,al,ea⟩
            rw [tl,zt] at ea
            refine ⟨by show 0≤sizeLine;decide,fun L nL=> ?_⟩
            have sL:=ah (o:= .lst []) nL
            refine ⟨D,L,_,rfl,rfl,sL _ _ hD,ad,?_⟩
            have k':=kk _ (s12.trans (s3.trans sL))
            have ect:ctB n (.tup ts)=acc.isEmpty:=by
             rw [ctB,decide_eq_true (show (1:Int)≤(ts.length:Int) by omega),decide_eq_true (show (ts.length:Int)≤3 by omega),fX,ea]
             rfl
            rw [ect] at k'
            exact k'
        · rw [decide_eq_false z3]
          refine iteT ?_
          have ect:ctB n (.tup ts)=false:=by
           rw [ctB]
           by_cases z1:(1:Int)≤(ts.length:Int)
           · rw [decide_eq_false (show¬(ts.length:Int)≤3 by omega)]
             simp
           · rw [decide_eq_false z1]
             rfl
          have k':=kk H2 s12
          rw [ect] at k'
          exact k'
      |non=>cases ec
      |bl b=>cases ec
      |int i=>cases ec
      |str z=>cases ec
      |lst=>cases ec
      |dct=>cases ec
  · have h2:hdB "name" 2 p=false:=by
     cases p with
     |tup ts=>
      show (decide _&&_)=false
      have:decide ((ts.length:Int)=2)=false:=e2
      rw [this]
      rfl
     |_=>rfl
    have h3:hdB "call" 3 p=false:=by
     cases p with
     |tup ts=>
      show (decide _&&_)=false
      have:decide ((ts.length:Int)=3)=false:=e3
      rw [this]
      rfl
     |_=>rfl
    refine ⟨_,rfl,v,p,_,2,rfl,hv,by decide,_,rfl,?_⟩
    rw [h2]
    refine iteF ?_
    refine ⟨_,rfl,v,p,_,3,rfl,hv,by decide,_,rfl,?_⟩
    rw [h3]
    have k':=k H (Same.refl H)
    rw [et] at k'
    exact iteT (iteT k')
end
open PySem L2 Mth
section
variable {P:Program} {w:World} {K:PySem.W.Frag} {mg:Str→Option Value} {base:Heap}
def pZ (K:PySem.W.Frag):Sp:=fun vs H Q _=>∃(x C fI:Addr) (y:V),vs= [.ref x,y]∧H x=some (Exo C x)∧XCls K C fI∧Q .non H
theorem scI:az ["self","words"] ["self","words"] (ag gU):=⟨rfl,rfl,rfl,by decide +kernel,rfl,by decide +kernel,by decide +kernel⟩
theorem tY {f:Addr} {fd:FuncData} (F:Fun K "__init__" "WishError.__init__" gU f fd) (B:Blt mg):FnOk P w K mg base CX0 1 f fd ["self","words"] (pZ K):=by
 refine F.ok scI (fun vs H Q E h=> ?_) (fun cdv A outer s H vs Q E hr h=> ?_)
 · obtain ⟨x,C,fI,y,rfl,_⟩:=h
   rfl
 · obtain ⟨x,C,fI,y,rfl,hH,hX,k⟩:=h
   refine ⟨_,ai (ge (ka rfl B.ve (a9 (pv 0) (a9 (pv 1) aa)))),?_⟩
   exact ⟨_,rfl,_,rfl,x,C,fI,[y],rfl,by show 1≤1000;decide,hH,hX,k⟩
def spFr (C:Addr):Sp:=fun vs H Q E=>∃(t b:Int),vs= [.int t, .int b]∧Big t∧Big b∧(b=0→E (.ref C) none H)∧(b≠0→∀p,H p=none→Q (.ref p) (upd H p (.tup [.int (fx t b), .int (fy t b)])))
theorem scF:az ["top","bottom","divisor"] ["top","bottom"] (ag sFr):=⟨rfl,rfl,rfl,by decide +kernel,rfl,by decide +kernel,by decide +kernel⟩
theorem xM {f fC fI C:Addr} {fd fdC fdI:FuncData} (F:Fun K "fraction" "fraction" sFr f fd) (FC:Fun K "common_divisor" "common_divisor" sCd fC fdC) (bC:Binds K fdC ["one","other"] []) (mC:mg "common_divisor"=some (.ref fC))
 (FI:Fun K "__init__" "WishError.__init__" gU fI fdI) (bI:Binds K fdI ["self","words"] []) (mX:mg "NoShare"=some (.ref C)) (XC:XCls K C fI) (B:Blt mg):FnOk P w K mg base (CX1 P w) 3 f fd ["top","bottom"] (spFr C):=by
 have GC:FnOk P w K mg base CX0 1 fC fdC ["one","other"] spCd:=xO FC B
 have GI:FnOk P w K mg base CX0 1 fI fdI ["self","words"] (pZ K):=tY FI B
 refine F.okX scF (fun vs H Q E h=> ?_) (fun cdv A outer s H vs Q E hr h=> ?_)
 · obtain ⟨a,b,rfl,_⟩:=h
   rfl
 · obtain ⟨t,b,rfl,ht,hb,kE,kQ⟩:=h
   have hr1:Room 1 _:=hr.mono (by decide)
   refine ⟨_,ae (aM (aE cf (pv 1) ac (ax _)) (ai (qz rfl XC (qJ XC GI hr rfl mX bI aj (a9 aG aa) (by decide) (hlen:=fun vs H Q E ⟨_,_,_,_,e,_⟩=>by rw [e];show 2≤1000;decide)) oH)) aw)
    (ae (aA (i:=2) scF.nd rfl (Or.inl rfl) (af GC hr1 rfl mC FC.kp bC .nil aj (a9 (pv 0) (a9 (pv 1) aa))))
    (ae (aM (aE iJ (pv 1) ac (ax _)) (ai (aA (i:=2) scF.nd rfl (Or.inl rfl) (nn iZ (pv 2)))) aw)
    (ai (ak (aX (a9 (aB ki (pv 0) (pv 2)) (a9 (aB ki (pv 1) (pv 2)) aa))))))),?_⟩
   refine ⟨_,rfl,rfl,_,rfl,?_⟩
   by_cases z:b=0
   · subst z
     rw [decide_eq_true rfl]
     refine iteT ?_
     intro x nx ns
     refine ⟨x,C,fI,_,rfl,ad,XC,rfl,x,rfl,ad,ns,?_⟩
     rw [sW nx]
     exact kE rfl
   · have z':¬(V.int b=V.int 0):=fun q=>z (V.int.inj q)
     rw [decide_eq_false z']
     refine iteF ?_
     refine ⟨_,rfl,_,rfl,t,b,rfl,?_⟩
     have bg:=eX (t:=t) hb z
     have n0:=ya (t:=t) z
     have last:∀d:Int,d=dv t b→∀H':Hp,H'=H→((tRet (tTup (bE (tOp (rI (fun _ j=>j≠0∧Big j) fun i j=> .int (i.fdiv j)) (tVar 0) (tVar 2)) (bE (tOp (rI (fun _ j=>j≠0∧Big j) fun i j=> .int (i.fdiv j)) (tVar 1) (tVar 2)) tNil))))
      {nx:=fun _ H'=>Q .non H',rt:=Q} [some (.int t),some (.int b),some (.int d)] H'):=by
      intro d hd H' hH
      subst hH
      have bd:Big d:=by
       rw [hd]
       unfold Big at*
       rw [wQ]
       omega
      have nd:d≠0:=by rw [hd];exact n0
      refine ⟨_,rfl,_,rfl,t,d,rfl,rfl,⟨nd,bd⟩,_,rfl,_,rfl,b,d,rfl,rfl,⟨nd,bd⟩,by show 2≤sizeLine;decide,fun p hp=> ?_⟩
      have:=kQ z p hp
      unfold fx fy at this
      rw [←hd] at this
      exact this
     refine ⟨_,rfl,b,0,rfl,rfl,_,rfl,?_⟩
     by_cases zb:b < 0
     · rw [decide_eq_true zb]
       refine iteT ?_
       refine ⟨_,rfl,_,rfl,?_⟩
       exact last _ (by unfold dv;rw [if_pos zb]) H rfl
     · rw [decide_eq_false zb]
       refine iteF ?_
       exact last _ (by unfold dv;rw [if_neg zb]) H rfl
end
open PySem L2 Mth EqD Tre
noncomputable def frB:Pl→Bool
 | .tup [.int a, .int b]=>decide (1≤b)&&decide (Int.gcd a b=1)
 |_=>false
theorem whB_int {p:Pl}:whB p=true↔∃i,p= .int i:=by
 cases p with
 |int i=>exact ⟨fun _=>⟨i,rfl⟩,fun _=>rfl⟩
 |bl b=>exact ⟨fun h=>(by cases h),fun ⟨i,e⟩=>(by cases e)⟩
 |non=>exact ⟨fun h=>(by cases h),fun ⟨i,e⟩=>(by cases e)⟩
 |str z=>exact ⟨fun h=>(by cases h),fun ⟨i,e⟩=>(by cases e)⟩
 |tup ts=>exact ⟨fun h=>(by cases h),fun ⟨i,e⟩=>(by cases e)⟩
 |lst=>exact ⟨fun h=>(by cases h),fun ⟨i,e⟩=>(by cases e)⟩
 |dct=>exact ⟨fun h=>(by cases h),fun ⟨i,e⟩=>(by cases e)⟩
theorem ky {a b:Int} (hb:1≤b):(a / (Int.gcd a b:Int)=a∧b / (Int.gcd a b:Int)=b)↔Int.gcd a b=1:=by
 have g0:0 < Int.gcd a b:=zl a (by omega)
 constructor
 · rintro ⟨_,h⟩
   have hm:b / (Int.gcd a b:Int)*(Int.gcd a b:Int)=b:=Int.ediv_mul_cancel (Int.gcd_dvd_right ..)
   rw [h] at hm
   have h1:b*((Int.gcd a b:Int) - 1)=0:=by rw [Int.mul_sub,hm,Int.mul_one,Int.sub_self]
   rcases Int.mul_eq_zero.mp h1 with z|z
   · omega
   · omega
 · intro h
   rw [h]
   exact ⟨Int.ediv_one a,Int.ediv_one b⟩
section
variable {P:Program} {w:World} {K:PySem.W.Frag} {mg:Str→Option Value} {base:Heap}
def spFq:Sp:=fun vs H Q _=>∃(v:V) (p:Pl),vs= [v]∧PlAt H v p∧(∀a b,p= .tup [.int a, .int b]→Big a∧Big b)∧∀H',Same H H'→Q (.bl (frB p)) H'
theorem scFq:az ["thing"] ["thing"] (ag sFrQ):=⟨rfl,rfl,rfl,by decide +kernel,rfl,by decide +kernel,by decide +kernel⟩
theorem xN {f fT fW fF C:Addr} {fd dT dW dF:FuncData} (F:Fun K "is_fraction" "is_fraction" sFrQ f fd)
 (gT:FnOk P w K mg base CX0 1 fT dT ["thing","count"] spTo) (kT:PySem.W.keepIn K (.ref fT)=true) (bT:Binds K dT ["thing","count"] []) (mT:mg "is_tuple_of"=some (.ref fT))
 (gW:FnOk P w K mg base CX0 1 fW dW ["thing"] spIw) (kW:PySem.W.keepIn K (.ref fW)=true) (bW:Binds K dW ["thing"] []) (mW:mg "is_whole"=some (.ref fW))
 (gF:FnOk P w K mg base (CX1 P w) 3 fF dF ["top","bottom"] (spFr C)) (kF:PySem.W.keepIn K (.ref fF)=true) (bF:Binds K dF ["top","bottom"] []) (mF:mg "fraction"=some (.ref fF)):FnOk P w K mg base CX0 4 f fd ["thing"] spFq:=by
 refine F.ok scFq (fun vs H Q E h=> ?_) (fun cdv A outer s H vs Q E hr h=> ?_)
 · obtain ⟨v,p,rfl,_⟩:=h
   rfl
 obtain ⟨v,p,rfl,hv,hbig,k⟩:=h
 have hr1:Room 1 _:=hr.mono (by decide)
 have hu50:=yG (yW (show 50≤64 by decide) _) hr.units
 refine ⟨_,ae (aM (PW.pt (bQ (aS (aJ (af gT hr1 rfl mT kT bT .nil aj (a9 (pv 0) (a9 ac aa))))) (bQ (aS (aJ (af gW hr1 rfl mW kW bW .nil aj (a9 (aq ar (pv 0) ac fun _ _=>rfl) aa)))) (bK (aS (aJ (af gW hr1 rfl mW kW bW .nil aj (a9 (aq ar (pv 0) ac fun _ _=>rfl) aa)))))))) (ai (ak bR)) aw)
  (ai (ak (b7 (aY xA (aq ar (pv 0) ac fun _ _=>rfl) ac (ax _)) (bn (aY (qQ hu50) (af gF (hr.mono (by decide)) rfl mF kF bF .nil xy (a9 (aq ar (pv 0) ac fun _ _=>rfl) (a9 (aq ar (pv 0) ac fun _ _=>rfl) aa))) (pv 0) (ax _)))))),?_⟩
 have no:frB p=false→Q (.bl false) H:=fun e=>by
  have k':=k H (Same.refl H)
  rw [e] at k'
  exact k'
 refine ⟨_,rfl,v,p,2,rfl,hv,_,rfl,?_⟩
 cases e2:toB 2 p with
 |false=>
  refine iteT (iteT (no ?_))
  unfold frB
  split
  · exact absurd e2 (by simp [toB])
  · rfl
 |true=>
  obtain ⟨a,b,rfl⟩:∃a b,p= .tup [a,b]:=by
   rcases fK p with h|⟨a,b,c,rfl⟩|⟨h,_⟩
   · exact h
   · simp [toB] at e2
   · rw [h] at e2
     cases e2
  obtain ⟨r,x,y,rfl,g,hx,hy⟩:=pl2 hv
  refine iteF ?_
  refine ⟨_,rfl,r,_,0,x,rfl,rfl,SqT.of g,rfl,x,a,rfl,hx,_,rfl,?_⟩
  cases ea:whB a with
  |false=>
   refine iteT (iteT (no ?_))
   unfold frB
   split
   · rename_i i j e
     simp only [Pl.tup.injEq,zf,and_true] at e
     rw [e.1] at ea
     cases ea
   · rfl
  |true=>
   obtain ⟨i,rfl⟩:=whB_int.mp ea
   refine iteF ?_
   refine ⟨_,rfl,r,_,1,y,rfl,rfl,SqT.of g,rfl,y,b,rfl,hy,_,rfl,?_⟩
   cases eb:whB b with
   |false=>
    refine iteT (no ?_)
    unfold frB
    split
    · rename_i i' j e
      simp only [Pl.tup.injEq,zf,and_true] at e
      rw [e.2] at eb
      cases eb
    · rfl
   |true=>
    obtain ⟨j,rfl⟩:=whB_int.mp eb
    refine iteF ?_
    have hx':x= .int i:=by unfold PlAt at hx;exact hx
    have hy':y= .int j:=by unfold PlAt at hy;exact hy
    subst hx' hy'
    have kk:∀H',Same H H'→Q (.bl (decide (1≤j)&&decide (Int.gcd i j=1))) H':=k
    refine ⟨_,rfl,r,_,1, .int j,rfl,rfl,SqT.of g,rfl,_,_,rfl,rfl,_,rfl,?_⟩
    by_cases z:(1:Int)≤j
    · rw [decide_eq_true z] at kk
      rw [decide_eq_true z]
      obtain ⟨b1,b2⟩:=hbig i j rfl
      refine iteT ⟨_,rfl,r,_,0, .int i,rfl,rfl,SqT.of g,rfl,_,rfl,r,_,1, .int j,rfl,rfl,SqT.of g,rfl,i,j,rfl,b1,b2,fun q=>by omega,fun _ q nq=> ?_⟩
      have sq:=ah (o:= .tup [.int (fx i j), .int (fy i j)]) nq
      refine ⟨_,rfl,[.int (fx i j), .int (fy i j)],[.int i, .int j],cy ad,cy (sq _ _ g), .inl (by simp [Trs.pure,Tr.pure]),(by simp [Trs.depth,Tr.depth]),?_⟩
      have e:eqTs [.int (fx i j), .int (fy i j)] [.int i, .int j]=decide (Int.gcd i j=1):=by
       have h1:fx i j=i / (Int.gcd i j:Int):=by
        unfold fx dv
        rw [if_neg (by omega),Int.fdiv_eq_ediv_of_nonneg _ (by omega)]
       have h2:fy i j=j / (Int.gcd i j:Int):=by
        unfold fy dv
        rw [if_neg (by omega),Int.fdiv_eq_ediv_of_nonneg _ (by omega)]
       rw [h1,h2,zc,decide_eq_true_iff,←ky z]
       simp [eqTs,eqT]
      rw [e]
      exact kk _ sq
    · rw [decide_eq_false z] at kk
      rw [decide_eq_false z]
      exact iteF (kk H (Same.refl H))
end
end K05
namespace SlW
open PySem PySem.Spec PyProof.Rows SeqAt L2 Tre
section
variable {prog:Program} {w:World} {A:Around} {E:Value→Shared→Prop} {s:Shared}
theorem cj {H:Hp} {p:Addr} {o:HO} (h:H p=none):Same H (upd H p o):=fun b u e=>by
 rw [aF (aK e h)]
 exact e
theorem fB {t sl:Addr} {xs:Array Value} {vl vu:Value} {lo hi:Option Int} {Q:Value→Shared→Prop} (ht:IsTup s.heap t xs) (hs:s.heap.IsSliceOf sl vl vu .none) (pl:IsPart vl lo) (pu:IsPart vu hi)
 (h1:HT.sIx xs.size 0 lo=0) (h2:HT.sIx xs.size xs.size hi=xs.size) (h:Q (.ref t) s):wpAny (model prog w) A (getItem (.ref t) (.ref sl)) Q E s:=by
 obtain ⟨os,hos,hcs,hds⟩:=id hs
 have hT:s.TypeIs (.ref sl) "slice":=⟨os,hos,hcs⟩
 unfold getItem
 try with_reducible refine wpAny_holding ?_
 first|refine wpAny_bind (wpAny_pure ?_)|skip
 refine wpAny_bind (wpAny_sequenceKey ht.typeIs (by decide) ?_)
 refine wpAny_bind (wpAny_callSpecial?_slot (name:=Str.ofString "__getitem__") ht.typeIs slot_tuple_getitem (wpAny_call_entry slot_tuple_getitem ht.typeIs entry_tuple_getitem ?_ (args_tuple_getitem _ _)))
 show wpAny _ _ (Builtin.Tuple.tupleItemsOf (.ref t) >>=_) _ _ s
 refine wpAny_bind (tupleItemsOf_ ht ?_)
 refine wpAny_bind (wpAny_typeOf hT ?_)
 rw [if_pos (by decide)]
 refine wpAny_bind (HT.sliceApplied_gen hs pl pu ?_)
 have q:(((HT.sIx xs.size 0 lo:Nat):Int)==0&& (1:Int)==1&& (HT.sIx xs.size xs.size hi - HT.sIx xs.size 0 lo)==xs.size)=true:=by
  rw [h1,h2]
  simp
 show wpAny _ _ (if (((HT.sIx xs.size 0 lo:Nat):Int)==0&& (1:Int)==1&& (HT.sIx xs.size xs.size hi - HT.sIx xs.size 0 lo)==xs.size)=true then _ else _) _ _ s
 rw [if_pos q]
 refine wpAny_bind (m:=Builtin.Tuple.tupleIsExact (.ref t)) (wpAny_bind (wpAny_typeOf ht.typeIs (wpAny_pure ?_)))
 rw [if_pos (by decide)]
 first
  |exact wpAny_pure ⟨_,rfl,wpAny_pure h⟩
  |exact wpAny_bind (wpAny_pure ⟨_,rfl,wpAny_pure h⟩)
  |exact wpAny_bind (wpAny_rule (wpAny_pure ⟨_,rfl,wpAny_pure h⟩))
  |(trace_state;exact wpAny_pure (wpAny_pure ⟨_,rfl,wpAny_pure h⟩))
end
section
variable {X:Cx}
def rSlA:V→Option Int→Option Int→Hp→VK→Prop:=fun x lo hi H Q=>∃a xs,x= .ref a∧H a=some (.tup xs)∧∀r H',Same H H'→H' r=some (.tup (cutV xs lo hi))→Q (.ref r) H'
theorem sl_A:SlR X rSlA:=by
 intro pins s σ H x v vl vu lo hi sl Q I rx hs pl pu h
 obtain ⟨a,xs,rfl,hx,q⟩:=h
 by_cases z:HT.sIx xs.length 0 lo=0∧HT.sIx xs.length xs.length hi=xs.length
 · cases rx
   obtain ⟨its,r,ht,hz⟩:=I.tuple (SqT.of hx)
   have hlen:its.toArray.size=xs.length:=by rw [yp];exact r.length.symm
   refine ⟨"tuple",_,slot_tuple_getitem.lookup,ht.typeIs,?_⟩
   refine fB ht hs pl pu (by rw [hlen];exact z.1) (by rw [hlen];exact z.2) ⟨.ref a,H,I,rfl,q a H (Same.refl H) ?_⟩
   have e:cutV xs lo hi=xs:=by
    unfold cutV
    rw [z.1,z.2]
    simp
   rw [e]
   exact hx
 · exact qd pins s σ H _ v vl vu lo hi sl Q I rx hs pl pu ⟨a,xs,rfl,SqT.of hx,z,fun p np=>q p _ (cj np) ad⟩
end
end SlW
namespace Zp
open PySem
section
variable {prog:Program} {w:World} {A:Around} {E:Value→Shared→Prop} {s:Shared} {k:Src} {z TI TO i1 i2 l1 l2:Addr} {j:Nat} {xs ys:Array Value} {x y a b:Value}
theorem sO {Q:Fin→Shared→Prop} (hh:A.handled=none) (D:ZipApart z TI TO i1 i2 l1 l2) (hz:IsZip s.heap z TI TO .none) (hI:IsPair s.heap TI (.ref i1) (.ref i2)) (hO:IsPair s.heap TO a b)
 (t1:k.It s.heap i1 l1 j) (t2:k.It s.heap i2 l2 j) (q1:k.Sq s.heap l1 xs) (q2:k.Sq s.heap l2 ys) (ex:xs[j]?=some x) (ends:ys[j]?=none)
 (q:∀h' e,(∀c o,c≠z→c≠TO→c≠i1→c≠i2→s.heap.get? c=some o→h'.get? c=some o)→(∃o,h'.get? e=some o∧o.cls= .type "StopIteration")→E (.ref e) {s with heap:=h'}):
 wpAny (model prog w) A (Builtin.«zip.__next__» ⟨[.ref z],[]⟩) Q E s:=by
 show wpAny _ _ (do let u←field (.ref z) 2;_) _ _ _
 refine wpAny_bind (wpAny_field hz rfl (x:= .bool false) rfl ?_)
 show wpAny _ _ (do let u←field (.ref z) 3;_) _ _ _
 refine wpAny_bind (wpAny_field hz rfl (x:= .ref TI) rfl (wpAny_bind (wpAny_seqItems hI rfl ?_)))
 show wpAny _ _ (do let u←Builtin.SmallTypes.ownedTupleIsFree (.ref z);_) _ _ _
 refine wpAny_bind ?_
 rw [Builtin.SmallTypes.ownedTupleIsFree]
 refine wpAny_bind (wpAny_field hz rfl (x:= .none) rfl (wpAny_pure ?_))
 simp only [if_true]
 refine wpAny_bind (wpAny_rule (wpAny_bind (wpAny_field hz rfl (x:= .ref TO) rfl (wpAny_bind (wpAny_setField_rec hz (by simp) fun g1 y1 s1=> ?_)))))
 have y1:IsZip g1 z TI TO .ellipsis:=y1
 refine wpAny_bind ?_
 simp only [List.forIn_cons,List.forIn_nil,List.zipIdx_nil,List.zipIdx_cons]
 refine wpAny_bind (wpAny_bind (wpAny_onRaise ?_))
 show wpAny _ _ (do let u←Builtin.SmallTypes.nextOf (.ref i1);_) _ _ _
 refine wpAny_bind (jr (s:= {s with heap:=g1}) (cS t1 fun o e=>s1.extBut _ o D.i1z e) (jT q1 fun o e=>s1.extBut _ o D.l1z e) ex fun g2 u1 s2=>wpAny_pure ?_)
 have o2:IsPair g2 TO a b:=s2.extBut _ _ D.TOi1 (s1.extBut _ _ D.TOz hO)
 refine wpAny_bind (wpAny_seqItems o2 rfl (wpAny_bind (wpAny_updateSeq_pair (s:= {s with heap:=g2}) o2 fun g3 o3 s3=> ?_)))
 have o3:IsPair g3 TO x b:=o3
 refine wpAny_bind (wpAny_letGo (wpAny_pure (wpAny_bind (wpAny_bind (wpAny_onRaise ?_)))))
 show wpAny _ _ (do let u←Builtin.SmallTypes.nextOf (.ref i2);_) _ _ _
 refine wpAny_bind (qX (s:= {s with heap:=g3}) hh (cS t2 fun o e=>s3.extBut _ o D.TOi2.symm (s2.extBut _ o D.i12.symm (s1.extBut _ o D.i2z e))) (jT q2 fun o e=>s3.extBut _ o D.l2TO (s2.extBut _ o D.l2i1 (s1.extBut _ o D.l2z e))) ends fun g4 e s4 he=> ?_)
 obtain ⟨oe,e1,e2⟩:=he
 have y4:IsZip g4 z TI TO .ellipsis:=s4 _ _ D.i2z.symm (s3.extBut _ _ D.TOz.symm (s2.extBut _ _ D.i1z.symm y1))
 have ne:e≠z:=fun n=>by subst n;rw [y4] at e1;cases e1;simp at e2
 exact wpAny_setField_rec y4 (by simp) fun g5 _ s5=>q g5 e (fun c o c1 c2 c3 c4 n=>s5.extBut _ _ c1 (s4 _ _ c4 (s3.extBut _ _ c2 (s2.extBut _ _ c3 (s1.extBut _ _ c1 n))))) ⟨oe,s5.extBut _ _ ne e1,e2⟩
theorem sQ {Q:Option Value→Shared→Prop} (hh:A.handled=none) (D:ZipApart z TI TO i1 i2 l1 l2) (hz:IsZip s.heap z TI TO .none) (hI:IsPair s.heap TI (.ref i1) (.ref i2)) (hO:IsPair s.heap TO a b)
 (t1:k.It s.heap i1 l1 j) (t2:k.It s.heap i2 l2 j) (q1:k.Sq s.heap l1 xs) (q2:k.Sq s.heap l2 ys) (ex:xs[j]?=some x) (ends:ys[j]?=none)
 (q:∀h',(∀c o,c≠z→c≠TO→c≠i1→c≠i2→s.heap.get? c=some o→h'.get? c=some o)→Q none {s with heap:=h'}):wpAny (model prog w) A (pyNext (.ref z)) Q E s:=by
 have ty:s.TypeIs (.ref z) "zip":=⟨_,hz,rfl⟩
 rw [pyNext]
 refine wpAny_bind (wpAny_attempt (wpAny_callSpecial?_slot (name:=Str.ofString "__next__") ty F.slot_zip_next (wpAny_call_entry F.slot_zip_next ty F.entry_zip_next (sO hh D hz hI hO t1 t2 q1 q2 ex ends fun h' e up he=> ?_) (F.args_zip_next_1 _))))
 obtain ⟨o,e1,e2⟩:=he
 exact wpAny_bind (wpAny_isInstance (T:="StopIteration") (b:=true) ⟨o,e1,e2⟩ isSubtype_stop (wpAny_pure (q _ up)))
end
end Zp
namespace L2
open PySem PySem.Spec PyProof.Rows Zp
def Itz2 (k:Src) (K:PySem.W.Frag) (a b:Addr):It:=⟨(Itz k K a b).go,(Itz k K a b).yld,fun i H=>(Itz k K a b).stop i H∨∃xs ys,Sqk k K H a xs∧Sqk k K H b ys∧i < xs.length∧ys.length≤i⟩
theorem oD {P:Program} {w:World} {K:PySem.W.Frag} {es:List Expr} {kk:Nat} {pos:Pos} {k:Src} (a b z TI TO i1 i2:Addr) (hd: [z,TI,TO,i1,i2].Nodup):
 Turn P w K (.Tuple es kk pos) (Itz2 k K a b) [z,TI,TO,i1,i2] z (fun i h=>IsZip h z TI TO .none∧IsPair h TI (.ref i1) (.ref i2)∧(∃u v,IsPair h TO u v)∧k.It h i1 a i∧k.It h i2 b i∧a∉ [z,TI,TO,i1,i2]∧b∉ [z,TI,TO,i1,i2]) where
 mem:=(cH (P:=P) (w:=w) (es:=es) (kk:=kk) (pos:=pos) (k:=k) (K:=K) a b z TI TO i1 i2 hd).mem
 obj:=(cH (P:=P) (w:=w) (es:=es) (kk:=kk) (pos:=pos) (k:=k) (K:=K) a b z TI TO i1 i2 hd).obj
 keep:=(cH (P:=P) (w:=w) (es:=es) (kk:=kk) (pos:=pos) (k:=k) (K:=K) a b z TI TO i1 i2 hd).keep
 item:=(cH (P:=P) (w:=w) (es:=es) (kk:=kk) (pos:=pos) (k:=k) (K:=K) a b z TI TO i1 i2 hd).item
 self:=(cH (P:=P) (w:=w) (es:=es) (kk:=kk) (pos:=pos) (k:=k) (K:=K) a b z TI TO i1 i2 hd).self
 done:=by
  intro X hP hw hK hc i pins s σ H E I hf st hg
  rcases hg with hg|hg
  · exact (cH (P:=P) (w:=w) (es:=es) (kk:=kk) (pos:=pos) (k:=k) (K:=K) a b z TI TO i1 i2 hd).done X hP hw hK hc i pins s σ H E I hf st hg
  · obtain ⟨h1,h2,⟨u0,v0,h3⟩,h4,h5,h6,h7⟩:=st
    subst hP hw hK
    obtain ⟨xs,ys,g1,g2,g3,g4⟩:=hg
    obtain ⟨as,r1,p1,z1⟩:=I.sqk g1
    obtain ⟨bs,r2,p2,z2⟩:=I.sqk g2
    have hl:=r1.length
    have hl2:=r2.length
    simp only [zp,yk,yq,or_false,not_or,List.nodup_nil,and_true,not_false_eq_true] at hd h6 h7
    obtain ⟨⟨d1,d2,d3,d4⟩,⟨d5,d6,d7⟩,⟨d8,d9⟩,d10⟩:=hd
    have D:ZipApart z TI TO i1 i2 a b:=⟨Ne.symm d1,Ne.symm d2,Ne.symm d3,Ne.symm d4,d5,d6,d7,d8,d9,d10,h6.1,h6.2.2.1,h6.2.2.2.1,h6.2.2.2.2,h7.1,h7.2.2.1,h7.2.2.2.1,h7.2.2.2.2⟩
    have hi:i < as.length:=by omega
    refine sQ (I.ok.hd hc) D h1 h2 h3 h4 h5 p1 p2 (x:=as[i]) (by simp [hi]) (by simp;omega) fun h' up=>⟨rfl,I.turneds (t':=s.toks) (fun c o n e=> ?_) hf⟩
    simp only [yk,yq,or_false,not_or] at n
    exact up c o n.1 n.2.2.1 n.2.2.2.1 n.2.2.2.2 e
section
variable {X:Cx}
def v9 (k:Src) (K:PySem.W.Frag) (ta:TA):TI:=fun σ H R=>ta σ H fun vs H1=>∃a b xs ys,vs= [.ref a, .ref b]∧Sqk k K H1 a xs∧Sqk k K H1 b ys∧R (Itz2 k K a b) H1
theorem tJ {k:Src} {es:List Expr} {kk:Nat} {pt:Pos} {x y:Expr} {ta:TA} {p pos:Pos} (hg:Gl X "zip") (hm:X.mg "zip"=none) (ha:PA X [x,y] ta) (hs:starEach [x,y] X.env= [(false,eval x X.env),(false,eval y X.env)]:=by rfl) (hs2:starEach [y] X.env= [(false,eval y X.env)]:=by rfl):
 PI X (.Tuple es kk pt) (.Call (.Name "zip" p) [x,y] [] pos) (v9 k X.K ta):=by
 intro pins s σ H R I h
 refine Call_ (ft I hg hm PyProof.Rows.boot_zip (PyProof.Rows.callWith_type1 (thn (ha pos pins s σ H _ I h) fun us s1 ⟨vs,H1,I1,r1,q1⟩=> ?_) (by rw [hs,hs2]) (by rw [hs2];rfl)))
 obtain ⟨a,b,xs,ys,e,k1,k2,q⟩:=q1
 subst e
 cases r1 with
 |cons r rr=>
  cases rr with
  |cons r' rr=>
   cases rr
   cases r
   cases r'
   obtain ⟨as,_,p1,_⟩:=I1.sqk k1
   obtain ⟨bs,_,p2,_⟩:=I1.sqk k2
   refine sj p1 p2 fun h' hz hI hO t1 t2 sz up=> ?_
   refine wpAny_pyIter_zip (s:= {s1 with heap:=h'}) hz ?_
   have lta:a < s1.heap.objs.size:=by
    cases k
    · obtain ⟨o,e,_⟩:=p1
      exact Heap.lt_size e
    · obtain ⟨o,e,_⟩:=p1
      exact Heap.lt_size e
   have ltb:b < s1.heap.objs.size:=by
    cases k
    · obtain ⟨o,e,_⟩:=p2
      exact Heap.lt_size e
    · obtain ⟨o,e,_⟩:=p2
      exact Heap.lt_size e
   have na:∀j,a≠s1.heap.objs.size+j:=fun j=>yE (yB lta (Nat.le_add_right ..))
   have nb:∀j,b≠s1.heap.objs.size+j:=fun j=>yE (yB ltb (Nat.le_add_right ..))
   have le:∀c∈ [s1.heap.objs.size+4,s1.heap.objs.size+2,s1.heap.objs.size+3,s1.heap.objs.size+0,s1.heap.objs.size+1],s1.heap.objs.size≤c:=fun c hc=>by
    simp only [yk,yq,or_false] at hc
    rcases hc with rfl|rfl|rfl|rfl|rfl<;>exact Nat.le_add_right ..
   refine ⟨s1.heap.objs.size+4,[s1.heap.objs.size+4,s1.heap.objs.size+2,s1.heap.objs.size+3,s1.heap.objs.size+0,s1.heap.objs.size+1],_,_,H1,rfl,I1.kept (t':=s1.toks) up,oD a b _ _ _ _ _ (by simp),⟨hz,hI,⟨_,_,hO⟩,t1,t2,?_,?_⟩,fun c hc=>I1.fpOk (le c hc) (I1.hok.fresh (le c hc)),q⟩
   · simp only [yk,yq,or_false,not_or]
     exact ⟨na 4,na 2,na 3,na 0,na 1⟩
   · simp only [yk,yq,or_false,not_or]
     exact ⟨nb 4,nb 2,nb 3,nb 0,nb 1⟩
end
def vk (J:It) (mp:List (Option Nat)) (g:TG) (te:TE) (σ:L2.St) (Q:VK) (H1:Hp):Prop:=∀D,H1 D=none→
 ∃W:Nat→Nat→List V→Hp→Prop,(∃m,W 0 m [] (upd H1 D (.lst [])))∧∀i m acc H2,W i m acc H2→
  (J.stop i H2∧Q (.ref D) H2)∨
  (J.go i H2∧∀x H3,J.yld i H2 x H3→g x (subS mp σ) H3 fun σ4 H4=>Ext (subS mp σ) σ4∧eJ σ4 H4 fun b H5=>if b=true then te σ4 H5 fun v H6=>H6 D=some (.lst acc)∧acc.length < sizeLine∧∃m',m' < m∧W (i+1) m' (acc++ [v]) (upd H6 D (.lst (acc++ [v]))) else∃m',m' < m∧W (i+1) m' acc H5)
theorem oJ {k:Src} {K:PySem.W.Frag} {mp:List (Option Nat)} {ta:TA} {g:TG} {te:TE} {σ:L2.St} {H:Hp} {Q:VK} (h:ta σ H fun vs H1=>∃a b xs ys,vs= [.ref a, .ref b]∧Sqk k K H1 a xs∧Sqk k K H1 b ys∧vk (Itz2 k K a b) mp g te σ Q H1):iy mp (v9 k K ta) g eJ te σ H Q:=h
theorem rY {k:Src} {K K':PySem.W.Frag} {a b:Addr} {mp:List (Option Nat)} {te:TE} {Q:VK} {σ rest:L2.St} {H1:Hp} {xs ys:List V} (e:subS mp σ=none::none::rest) (hl:ys.length≤xs.length)
 (h:∀D,H1 D=none→∃Pv:Nat→List V→Hp→Prop,Pv 0 [] (upd H1 D (.lst []))∧(∀i acc H,Pv i acc H→Sqk k K H a xs∧Sqk k K H b ys)∧
  (∀i T x y acc H,i < ys.length→i < sizeLine→Pv i acc H→xs[i]?=some x→ys[i]?=some y→H T=none→te (some x::some y::rest) (upd H T (.tup [x,y])) (CompN ys.length i D acc Pv))∧∀acc H,Pv ys.length acc H→Q (.ref D) H):
 vk (Itz2 k K a b) mp (gTup K' 2 (kX (dn 0) (kX (dn 1) gNil))) te σ Q H1:=by
 intro D nD
 rw [e]
 obtain ⟨Pv,p0,pq,ps,pd⟩:=h D nD
 refine ⟨fun i m acc H=>m=ys.length - i∧i≤ys.length∧Pv i acc H,⟨ys.length,by simp,yO _,p0⟩,?_⟩
 rintro i m acc H ⟨rfl,hi,p⟩
 obtain ⟨q1,q2⟩:=pq i acc H p
 by_cases hlt:i < ys.length
 · refine .inr ⟨⟨xs,ys,xs[i],ys[i],q1,q2,by simp,by simp [hlt]⟩,?_⟩
   rintro v H' ⟨T,x,y,rfl,nT,rfl,y1,y2,z⟩
   refine ⟨T,[x,y],rfl,SqT.of ad,rfl,x,[y],rfl,y,[],rfl,rfl,ext2,?_⟩
   exact ps i T x y acc H hlt z p (y1 xs q1) (y2 ys q2) nT
 · have ei:i=ys.length:=by omega
   subst ei
   refine .inl ⟨?_,pd acc H p⟩
   by_cases hx:xs.length≤ys.length
   · exact .inl ⟨xs,ys,q1,q2,hx⟩
   · exact .inr ⟨xs,ys,q1,q2,by omega,yl _⟩
end L2
namespace Su
open PySem L2 Tre Mth Wd
def rv (p:Fr):Rat:=(p.1:Rat) / (p.2:Rat)
abbrev Sh (p:Fr):Prop:=oz p.1 p.2
theorem ne0 {b:Int} (h:0 < b):(b:Rat)≠0:=by
 simp only [ne_eq,Rat.intCast_eq_zero_iff]
 omega
theorem uV {p q:Fr} (h1:0 < p.2) (h2:0 < q.2):rv p=rv q↔p.1*q.2=q.1*p.2:=by
 have a:=ne0 h1
 have b:=ne0 h2
 unfold rv
 constructor
 · intro h
   have:(p.1:Rat)*q.2=q.1*p.2:=by grind
   exact_mod_cast this
 · intro h
   have:(p.1:Rat)*q.2=q.1*p.2:=by exact_mod_cast h
   grind
theorem qo {p q:Fr} (h1:Sh p) (h2:Sh q) (e:rv p=rv q):p=q:=by
 rw [uV h1.1 h2.1] at e
 obtain ⟨a,b⟩:=p
 obtain ⟨c,d⟩:=q
 obtain ⟨b0,g1⟩:=h1
 obtain ⟨d0,g2⟩:=h2
 dsimp only at*
 have n1:a.natAbs*d.natAbs=c.natAbs*b.natAbs:=by rw [←Int.natAbs_mul,←Int.natAbs_mul,e]
 have g1':Nat.Coprime b.natAbs a.natAbs:=by rw [Nat.coprime_comm];exact g1
 have g2':Nat.Coprime d.natAbs c.natAbs:=by rw [Nat.coprime_comm];exact g2
 have d1:b.natAbs∣d.natAbs:=g1'.dvd_of_dvd_mul_left ⟨c.natAbs,by rw [n1,Nat.mul_comm]⟩
 have d2:d.natAbs∣b.natAbs:=g2'.dvd_of_dvd_mul_left ⟨a.natAbs,by rw [←n1,Nat.mul_comm]⟩
 have e1:=Nat.dvd_antisymm d1 d2
 have e2:b=d:=by omega
 subst e2
 have e3:a=c:=Int.eq_of_mul_eq_mul_right (by omega) e
 rw [e3]
theorem nh:Sh zero:=⟨by decide,by decide⟩
theorem rv_zero:rv zero=0:=by
 show ((0:Int):Rat) / ((1:Int):Rat)=0
 have:((0:Int):Rat)=0:=by simp
 rw [this]
 grind
theorem qm {p:Fr} (h:Sh p):rv p=0↔p=zero:=by
 constructor
 · intro e
   exact qo h nh (e.trans rv_zero.symm)
 · rintro rfl
   exact rv_zero
noncomputable def low (t b:Int):Fr:=(t / (Int.gcd t b:Int),b / (Int.gcd t b:Int))
theorem lP {t b:Int} (h:0 < b):Sh (low t b):=by
 obtain ⟨x',y',ex,ey,g1,qx,qy⟩:=dw (x:=t) (y:=b) (by omega)
 unfold low
 rw [qx,qy]
 have y0:0 < y':=eC (k:=(Int.gcd t b:Int)) (by omega) (by omega)
 exact ⟨y0,g1⟩
theorem vK {t b:Int} (h:0 < b):rv (low t b)=(t:Rat) / (b:Rat):=by
 have s:=lP (t:=t) h
 obtain ⟨x',y',ex,ey,g1,qx,qy⟩:=dw (x:=t) (y:=b) (by omega)
 have g0:0 < Int.gcd t b:=zl t (by omega)
 unfold low at s ⊢
 rw [qx,qy] at s ⊢
 have e:x'*b=t*y':=by
  generalize ((Int.gcd t b:Nat):Int)=g at*
  rw [ex,ey]
  simp only [Int.mul_assoc,Int.mul_left_comm,Int.mul_comm]
 exact (uV (p:=(x',y')) (q:=(t,b)) s.1 h).mpr e
theorem wM {e:Nat} {t b:Int} (h:0 < b) (h1:Lt2 e t) (h2:Lt2 e b):Gf e (low t b):=⟨(lP h).1,h1.div,h2.div⟩
abbrev Pq:=Tr×Fr
def prT (p:Pq):Tr:= .tup [p.1,frT p.2]
open Classical in
noncomputable def tot (t:Tr):List Pq→Rat
 | []=>0
 |p::r=>(if p.1=t then rv p.2 else 0)+tot t r
theorem t4 (t:Tr) (a b:List Pq):tot t (a++b)=tot t a+tot t b:=by
 induction a with
 |nil=>simp only [List.nil_append,tot];grind
 |cons p r ih=>simp only [List.cons_append,tot,ih];grind
open Classical in
theorem t3 (t:Tr) (p:Pq):tot t [p]=if p.1=t then rv p.2 else 0:=by
 simp only [tot]
 grind
theorem dh {t:Tr}:∀ {l:List Pq},(∀p∈l,p.1≠t)→tot t l=0
 | [],_=>rfl
 |p::r,h=>by
  simp only [tot]
  rw [if_neg (h p yn),dh fun q m=>h q (ym _ m)]
  grind
abbrev Asc (us:List Pq):Prop:=us.Pairwise fun a b=>ltT a.1 b.1=true
theorem wj (t:Tr):ltT t t=false:=by
 cases e:ltT t t with
 |false=>rfl
 |true=>exact (eQ e).symm.trans e |>.symm
theorem nH {t u:Tr} (h:ltT t u=true):t≠u:=fun z=>by
 rw [z,wj] at h
 cases h
theorem oZ {a b c:Tr} (h1:ltT a b=true) (h2:ltT b c=true):ltT a c=true:=ltT_iff.mpr (dE (ltT_iff.mp h1) (ltT_iff.mp h2))
theorem gv {us:List Pq} (h:Asc us) {p:Pq} (m:p∈us):tot p.1 us=rv p.2:=by
 induction us with
 |nil=>cases m
 |cons q r ih=>
  obtain ⟨h1,h2⟩:=zu.mp h
  simp only [tot]
  rcases yk.mp m with e|m
  · subst e
    rw [if_pos rfl,dh fun x mx=>(nH (h1 x mx)).symm]
    grind
  · rw [if_neg (nH (h1 p m)),ih h2 m]
    grind
structure Can (ps us:List Pq):Prop where
 asc:Asc us
 sh:∀p∈us,Sh p.2∧p.2≠zero
 eq:∀t,tot t us=tot t ps
theorem Can.mem {ps us vs:List Pq} (h1:Can ps us) (h2:Can ps vs) {p:Pq} (m:p∈us):p∈vs:=by
 have e1:=gv h1.asc m
 rw [h1.eq,←h2.eq] at e1
 have n0:rv p.2≠0:=fun z=>(h1.sh p m).2 ((qm (h1.sh p m).1).mp z)
 refine Classical.byContradiction fun no=> ?_
 by_cases q:∀x∈vs,x.1≠p.1
 · rw [dh q] at e1
   exact n0 e1.symm
 · obtain ⟨x,hx⟩:=Classical.not_forall.mp q
   obtain ⟨mx,ex⟩:=Classical.not_imp.mp hx
   have ex:=Classical.not_not.mp ex
   have e2:=gv h2.asc mx
   rw [ex,e1] at e2
   have e3:=qo (h1.sh p m).1 (h2.sh x mx).1 e2
   have:x=p:=Prod.ext ex e3.symm
   rw [this] at mx
   exact no mx
theorem sx:∀ {us vs:List Pq},Asc us→Asc vs→(∀p,p∈us↔p∈vs)→us=vs
 | [],[],_,_,_=>rfl
 | [],b::vs,_,_,h=>by
  have:=(h b).mpr yn
  cases this
 |a::us,[],_,_,h=>by
  have:=(h a).mp yn
  cases this
 |a::us,b::vs,h1,h2,h=>by
  obtain ⟨a1,a2⟩:=zu.mp h1
  obtain ⟨b1,b2⟩:=zu.mp h2
  have e:a=b:=by
   rcases yk.mp ((h a).mp yn) with e|m
   · exact e
   · rcases yk.mp ((h b).mpr yn) with e|m'
     · exact e.symm
     · have:=eQ (b1 a m)
       rw [a1 b m'] at this
       cases this
  subst e
  rw [sx a2 b2 fun p=> ?_]
  constructor
  · intro m
    rcases yk.mp ((h p).mp (ym _ m)) with e|m'
    · rw [e] at m
      exact absurd rfl (nH (a1 a m))
    · exact m'
  · intro m
    rcases yk.mp ((h p).mpr (ym _ m)) with e|m'
    · rw [e] at m
      exact absurd rfl (nH (b1 a m))
    · exact m'
theorem Can.to {ps qs us:List Pq} (h:Can ps us) (e:∀t,tot t ps=tot t qs):Can qs us:=⟨h.asc,h.sh,fun t=>(h.eq t).trans (e t)⟩
structure Run (ds us:List Pq):Prop where
 asc:Asc us
 sh:∀p∈us,Sh p.2
 eq:∀t,tot t us=tot t ds
 key:∀p∈us,∃d∈ds,d.1=p.1
theorem Run.nil:Run [] []:=⟨.nil,(fun p m=>by cases m),fun t=>rfl,fun p m=>by cases m⟩
theorem lK (t:Tr) {us:List Pq} (h:∀p∈us,Sh p.2):tot t (us.filter fun p=>decide (p.2≠zero))=tot t us:=by
 induction us with
 |nil=>rfl
 |cons p r ih=>
  have ih:=ih fun q m=>h q (ym _ m)
  rw [List.filter_cons]
  by_cases z:p.2=zero
  · have e:decide (p.2≠zero)=false:=by simp [z]
    rw [e,if_neg (by decide),ih]
    simp only [tot,z,rv_zero]
    grind
  · have e:decide (p.2≠zero)=true:=by simp [z]
    rw [e,if_pos rfl]
    simp only [tot,ih]
theorem Run.fin {ps us:List Pq} (h:Run ps us):Can ps (us.filter fun p=>decide (p.2≠zero)):=by
 refine ⟨h.asc.filter _,fun p m=> ?_,fun t=>(lK t h.sh).trans (h.eq t)⟩
 obtain ⟨m1,m2⟩:=z9.mp m
 exact ⟨h.sh p m1,by simpa using m2⟩
theorem uZ {t u:Tr} (h1:ltT u t=false) (h2:eqT t u=false):ltT t u=true:=by
 cases e:ltT t u with
 |true=>rfl
 |false=>rw [wk e h1] at h2;cases h2
theorem pH {t u:Tr} (h1:Ty .tm t) (h2:Ty .tm u) (h:eqT t u=true):t=u:=x3 t.depth (yl _) h1 h2 ((du t u).mp h)
end Su
namespace L2
open PySem PySem.Spec PyProof.Rows
section
variable {X:Cx}
def rNeP (K:PySem.W.Frag):R2:=fun x y H Q=>∃(p q:Addr) (a b c d:Int),x= .ref p∧y= .ref q∧SqT K H p [.int a, .int b]∧SqT K H q [.int c, .int d]∧Q (.bl (!decide (a=c∧b=d))) H
theorem vW (hu:X.A.units+1 < cLine):OpR X (compareOp .NotEq) (rNeP X.K):=by
 intro pins s σ H x y v u Q I rx ry h
 obtain ⟨p,q,a,b,c,d,e1,e2,hp,hq,k⟩:=h
 subst e1 e2
 cases (show v=Value.ref p from rx)
 cases (show u=Value.ref q from ry)
 obtain ⟨its,r1,t1,_⟩:=I.tuple hp
 obtain ⟨its2,r2,t2,_⟩:=I.tuple hq
 obtain ⟨u1,u2,rfl,⟨w1,rfl⟩,⟨w2,rfl⟩⟩:=Vals.two r1
 obtain ⟨u3,u4,rfl,⟨w3,rfl⟩,⟨w4,rfl⟩⟩:=Vals.two r2
 refine SeqAt.RcNeAt.tuples (A:=X.A) (e:=fun j=>if j=0 then a==c else b==d) (show s.heap.IsTuple p _ from t1) (show s.heap.IsTuple q _ from t2) (by omega) (fun j h1 h2=> ?_) X.prog X.w X.xe _ ?_
 · match j,h1,h2 with
   |0,_,_=>exact PySem.SeqAt.EqAt.int_int a w1 c w3
   |1,_,_=>exact PySem.SeqAt.EqAt.int_int b w2 d w4
   |j+2,h1,_=>
    have:j+2 < 2:=h1
    omega
 · refine ⟨.bl (!decide (a=c∧b=d)),H,I,?_,k⟩
   show Value.bool (!(((a==c)&& ((b==d)&&true))&&true))=Value.bool (!decide (a=c∧b=d))
   congr 2
   rw [Bool.and_true,Bool.and_true,zc]
   simp
end
end L2
namespace Tre
open PySem L2
theorem TrsAt.set {H:Hp} {v:V} {t:Tr} (hv:TrAt H v t):∀ {vs:List V} {ts:List Tr} {i:Nat},TrsAt H vs ts→TrsAt H (vs.set i v) (ts.set i t)
 |vs,[],i,h=>by
  unfold TrsAt at h
  subst h
  simp
  exact .nil
 |vs,u::ts,0,h=>by
  obtain ⟨w,r,rfl,h1,h2⟩:=h.inv
  exact .cons hv h2
 |vs,u::ts,i+1,h=>by
  obtain ⟨w,r,rfl,h1,h2⟩:=h.inv
  exact .cons h1 (TrsAt.set hv h2)
theorem j6 {t:Tr} (h:Ty .tm t):∃ts,t= .tup ts:=by
 cases h<;>exact ⟨_,rfl⟩
end Tre
namespace Su
open PySem L2 Tre Mth Wd
structure Gq (e:Nat) (p:Pq):Prop where
 ty:Ty .tm p.1
 dep:p.1.depth≤7
 gf:Gf e p.2
 sh:Sh p.2
theorem Gq.pr {e:Nat} {p:Pq} (h:Gq e p):Ty .pr (prT p)∧(prT p).depth≤8:=by
 refine ⟨.pr _ _ h.ty (.fr _ _),?_⟩
 have:=h.dep
 unfold prT frT
 simp only [Tr.depth,Trs.depth]
 omega
theorem jR {α:Type} {us:List α} {i:Nat} {u:α} (e:us[i]?=some u):us.take (i+1)=us.take i++ [u]:=by
 rw [z7,e]
 rfl
open PySem L2 Tre Mth Wd
def m1:Fr:=(-1,1)
def p1:Fr:=(1,1)
end Su
namespace L2
theorem if_f {c:Bool} {p q:Prop} (h:c=false) (hq:q):if c=true then p else q:=by
 rw [h,if_neg (by decide)]
 exact hq
theorem ne_int {a b:Int} (h:a=b):(!decide (V.int a=V.int b))=false:=by
 rw [h,decide_eq_true rfl]
 rfl
theorem if_t {c:Bool} {p q:Prop} (h:c=true) (hp:p):if c=true then p else q:=by
 rw [h,if_pos rfl]
 exact hp
end L2
namespace EqD
open PySem PySem.Spec PyProof.Rows SeqAt L2 Tre
section
variable {X:Cx}
def rLtR:R2:=fun x y H Q=>∃t u,TrAt H x t∧TrAt H y u∧(t.pure∨u.pure)∧Cm t u∧t.depth≤40∧Q (.bl (ltT t u)) H
theorem vX (hu:X.A.units+50 < cLine):OpR X (compareOp .Lt) rLtR:=by
 intro pins s σ H x y v u Q I rx ry h
 obtain ⟨t,r,h1,h2,hp,hc,hd,q⟩:=h
 exact j4 I 40 hd hp hc h1 h2 rx ry (by omega) X.prog X.w X.xe _ ⟨.bl (ltT t r),H,I,rfl,q⟩
end
theorem cut1 (xs:List V):cutV xs (some 1) none=xs.drop 1:=by
 cases xs with
 |nil=>rfl
 |cons x xs=>
  unfold cutV
  rw [show (1:Int)=((1:Nat):Int) by rfl,HT.sIx_nat,HT.sIx_none,Nat.min_eq_left (by simp)]
  simp
theorem t7 {r:List V→Hp→VK→Prop} {te:TE} {σ:L2.St} {H:Hp} {Q:VK} (h:te σ H fun v H1=>r [v] H1 Q):tCB r (bE te tNil) σ H Q:=h
theorem jO {te:TE} {Z:Ends} {σ:L2.St} {H:Hp} (h:te σ H Z.rt):tRet te Z σ H:=h
theorem t5 {r:List V→Hp→VK→Prop} {te:TE} {σ:L2.St} {H:Hp} {Q:Bool→Hp→Prop} (h:te σ H fun v H1=>r [v] H1 fun x H2=>∃c,x= .bl c∧Q (!c) H2):tNot (tB (tCB r (bE te tNil))) σ H Q:=h
theorem pJ {ta:TE} {r:List V→Hp→VK→Prop} {te:TE} {σ:L2.St} {H:Hp} {Q:VK} (h:ta σ H fun x H1=>∃c,x= .bl c∧if c=true then te σ H1 fun v H2=>r [v] H2 Q else Q (.bl false) H1):uU ta (tCB r (bE te tNil)) σ H Q:=h
theorem sY {ta tb:TT} {t u rest:TS} {Z:Ends} {σ:L2.St} {H:Hp} {b1 b2:Bool} (h1:∀Q:Bool→Hp→Prop,Q b1 H→ta σ H Q) (h2:∀Q:Bool→Hp→Prop,Q b2 H→tb σ H Q) (h:if (b1 ||b2)=true then t {Z with nx:=rest Z} σ H else u {Z with nx:=rest Z} σ H):tSeq (tIfS (tOr ta tb) t u) rest Z σ H:=by
 refine h1 _ ?_
 cases b1 with
 |true=>exact iteT h
 |false=>exact iteF (h2 _ h)
mutual
noncomputable def toTr:Pl→Tr
 | .non=> .non
 | .bl b=> .bl b
 | .int i=> .int i
 | .str x=> .str x
 | .tup ts=> .tup (toTrs ts)
 | .lst=> .ls
 | .dct=> .ls
noncomputable def toTrs:List Pl→List Tr
 | []=> []
 |t::ts=>toTr t::toTrs ts
end
theorem ix:∀ts:List Pl,toTrs ts=ts.map toTr
 | []=>by rw [toTrs];rfl
 |t::ts=>by rw [toTrs,ix ts];rfl
mutual
noncomputable def toPl:Tr→Pl
 | .non=> .non
 | .bl b=> .bl b
 | .int i=> .int i
 | .str x=> .str x
 | .tup ts=> .tup (toPls ts)
 | .ls=> .lst
noncomputable def toPls:List Tr→List Pl
 | []=> []
 |t::ts=>toPl t::toPls ts
end
theorem cM:∀ts:List Tr,toPls ts=ts.map toPl
 | []=>by rw [toPls];rfl
 |t::ts=>by rw [toPls,cM ts];rfl
mutual
theorem jZ {H:Hp}:∀ {v:V} {t:Tr},TrAt H v t→PlAt H v (toPl t)
 |v, .non,h=>by unfold TrAt at h;rw [toPl];unfold PlAt;exact h
 |v, .bl b,h=>by unfold TrAt at h;rw [toPl];unfold PlAt;exact h
 |v, .int i,h=>by unfold TrAt at h;rw [toPl];unfold PlAt;exact h
 |v, .str x,h=>by unfold TrAt at h;rw [toPl];unfold PlAt;exact h
 |v, .ls,h=>by unfold TrAt at h;rw [toPl];unfold PlAt;exact h
 |v, .tup ts,h=>by
  unfold TrAt at h
  rw [toPl]
  unfold PlAt
  obtain ⟨r,vs,e,g,hs⟩:=h
  exact ⟨r,vs,e,g,pls_of hs⟩
theorem pls_of {H:Hp}:∀ {vs:List V} {ts:List Tr},TrsAt H vs ts→PlsAt H vs (toPls ts)
 |vs,[],h=>by unfold TrsAt at h;rw [toPls];unfold PlsAt;exact h
 |vs,t::ts,h=>by
  unfold TrsAt at h
  rw [toPls]
  unfold PlsAt
  obtain ⟨v,r,e,h1,h2⟩:=h
  exact ⟨v,r,e,jZ h1,pls_of h2⟩
end
mutual
theorem mU {H:Hp}:∀ {v:V} {p:Pl},PlAt H v p→(toTr p).pure→TrAt H v (toTr p)
 |v, .non,h,_=>by unfold PlAt at h;rw [toTr];unfold TrAt;exact h
 |v, .bl b,h,_=>by unfold PlAt at h;rw [toTr];unfold TrAt;exact h
 |v, .int i,h,_=>by unfold PlAt at h;rw [toTr];unfold TrAt;exact h
 |v, .str x,h,_=>by unfold PlAt at h;rw [toTr];unfold TrAt;exact h
 |v, .lst,_,q=>by rw [toTr] at q;exact absurd q (by simp [Tr.pure])
 |v, .dct,_,q=>by rw [toTr] at q;exact absurd q (by simp [Tr.pure])
 |v, .tup ts,h,q=>by
  unfold PlAt at h
  rw [toTr] at q ⊢
  unfold TrAt
  unfold Tr.pure at q
  obtain ⟨r,vs,e,g,hs⟩:=h
  exact ⟨r,vs,e,g,trs_of hs q⟩
theorem trs_of {H:Hp}:∀ {vs:List V} {ts:List Pl},PlsAt H vs ts→Trs.pure (toTrs ts)→TrsAt H vs (toTrs ts)
 |vs,[],h,_=>by unfold PlsAt at h;rw [toTrs];unfold TrsAt;exact h
 |vs,t::ts,h,q=>by
  unfold PlsAt at h
  rw [toTrs] at q ⊢
  unfold TrsAt
  unfold Trs.pure at q
  obtain ⟨v,r,e,h1,h2⟩:=h
  exact ⟨v,r,e,mU h1 q.1,trs_of h2 q.2⟩
end
end EqD
namespace K05
open PySem L2 Mth EqD Tre Wd Su
mutual
def Ok:Pl→Prop
 | .str x=>x.length≤1000
 | .int i=>Big i
 | .tup ts=>ts.length≤1000∧Oks ts
 |_=>True
def Oks:List Pl→Prop
 | []=>True
 |t::ts=>Ok t∧Oks ts
end
theorem lY:∀ {ts:List Pl} {t:Pl},Oks ts→t∈ts→Ok t
 |a::ts,t,h,m=>by
  unfold Oks at h
  rcases yk.mp m with rfl|m
  · exact h.1
  · exact lY h.2 m
mutual
theorem Ok.sm:∀ {p:Pl},Ok p→Sm p
 | .str x,h=>by unfold Ok at h;unfold Sm;exact h
 | .tup ts,h=>by unfold Ok at h;unfold Sm;exact ⟨h.1,Oks.sm h.2⟩
 | .int i,_=>by unfold Sm;trivial
 | .non,_=>by unfold Sm;trivial
 | .bl _,_=>by unfold Sm;trivial
 | .lst,_=>by unfold Sm;trivial
 | .dct,_=>by unfold Sm;trivial
theorem Oks.sm:∀ {ts:List Pl},Oks ts→Sms ts
 | [],_=>by unfold Sms;trivial
 |t::ts,h=>by unfold Oks at h;unfold Sms;exact ⟨Ok.sm h.1,Oks.sm h.2⟩
end
theorem Ok.big {p:Pl} (h:Ok p):∀a b,p= .tup [.int a, .int b]→Big a∧Big b:=fun a b e=>by
 subst e
 unfold Ok Oks Oks at h
 have h1:=h.2.1
 have h2:=h.2.2.1
 unfold Ok at h1 h2
 exact ⟨h1,h2⟩
theorem ok2 {a b:Pl} (h:Ok (.tup [a,b])):Ok a∧Ok b:=by
 unfold Ok Oks Oks at h
 exact ⟨h.2.1,h.2.2.1⟩
theorem ok3 {a b c:Pl} (h:Ok (.tup [a,b,c])):Ok a∧Ok b∧Ok c:=by
 unfold Ok Oks Oks Oks at h
 exact ⟨h.2.1,h.2.2.1,h.2.2.2.1⟩
theorem dep2 {a b:Pl} {n:Nat} (h:pdep (.tup [a,b]) < n+1):pdep a < n∧pdep b < n:=by
 simp only [pdep,psdep] at h
 omega
theorem dep3 {a b c:Pl} {n:Nat} (h:pdep (.tup [a,b,c]) < n+1):pdep a < n∧pdep b < n∧pdep c < n:=by
 simp only [pdep,psdep] at h
 omega
theorem jP:∀(n:Nat) {p:Pl},tmB n p=true→Ty .tm (toTr p)∧(toTr p).depth≤2*n
 |0,p,h=>by simp [tmB] at h
 |n+1,p,h=>by
  rcases fK p with ⟨a,b,rfl⟩|⟨a,b,c,rfl⟩|⟨_,_,e⟩
  · rw [tmB,yH] at h
    obtain ⟨h1,h2⟩:=h
    cases a with
    |str k=>
     cases b with
     |str x=>
      have ek:k=Str.ofString "name":=by
       simpa [isS] using h1
      subst ek
      simp only [toTr,toTrs]
      exact ⟨.nm x,by simp only [Tr.depth,Trs.depth];omega⟩
     |_=>cases h2
    |_=>cases h1
  · rw [tmB,yH,yH] at h
    obtain ⟨h1,h2,h3⟩:=h
    cases a with
    |str k=>
     cases b with
     |str x=>
      have ek:k=Str.ofString "call":=by
       simpa [isS] using h1
      subst ek
      cases c with
      |tup ts=>
       rw [ctB,yH,yH,fX,z5] at h3
       obtain ⟨_,h4,h5⟩:=h3
       have h4:=of_decide_eq_true h4
       have ih:=fun t m=>jP n (h5 t m)
       simp only [toTr,toTrs]
       rw [ix]
       refine ⟨.ap x _ (by rw [yo];omega) fun t m=> ?_,?_⟩
       · obtain ⟨u,mu,rfl⟩:=yV.mp m
         exact (ih u mu).1
       · have:Trs.depth (ts.map toTr)≤2*n:=dI fun t m=>by
          obtain ⟨u,mu,rfl⟩:=yV.mp m
          exact (ih u mu).2
         simp only [Tr.depth,Trs.depth]
         omega
      |_=>cases h3
     |_=>cases h2
    |_=>cases h1
  · rw [e n] at h
    cases h
noncomputable def zB:Pl→Bool
 | .tup [.int a, .int b]=>decide (a=0∧b=1)
 |_=>false
noncomputable def prB:Pl→Bool
 | .tup [a,b]=>tmB 20 a&& (frB b&& !zB b)
 |_=>false
def fstP:Pl→Pl
 | .tup (a::_)=>a
 |p=>p
noncomputable def ascB (ts:List Pl):Bool:=(ts.zip (ts.drop 1)).all fun x=>ltT (toTr (fstP x.1)) (toTr (fstP x.2))
noncomputable def smB:Pl→Bool
 | .tup ts=>ts.all prB&&ascB ts
 |_=>false
theorem lR {p:Pl} (h:toB 2 p=false):prB p=false:=by
 unfold prB
 split
 · simp [toB] at h
 · rfl
theorem o7 {b:Pl} (h:frB b=true):∃x y,b= .tup [.int x, .int y]:=by
 unfold frB at h
 split at h
 · exact ⟨_,_,rfl⟩
 · cases h
section
variable {P:Program} {w:World} {K:PySem.W.Frag} {mg:Str→Option Value} {base:Heap}
def spPr:Sp:=fun vs H Q _=>∃(v:V) (p:Pl),vs= [v]∧PlAt H v p∧Ok p∧pdep p < 21∧∀H',Same H H'→Q (.bl (prB p)) H'
theorem scPr:az ["thing"] ["thing"] (ag sPrQ):=⟨rfl,rfl,rfl,by decide +kernel,rfl,by decide +kernel,by decide +kernel⟩
theorem xF {f fO fT fF Z:Addr} {fd dO dT dF:FuncData} (F:Fun K "is_pair" "is_pair" sPrQ f fd)
 (gO:FnOk P w K mg base CX0 1 fO dO ["thing","count"] spTo) (kO:PySem.W.keepIn K (.ref fO)=true) (bO:Binds K dO ["thing","count"] []) (mO:mg "is_tuple_of"=some (.ref fO))
 (gT:FnOk P w K mg base CX0 41 fT dT ["thing"] (spTm 20)) (kT:PySem.W.keepIn K (.ref fT)=true) (bT:Binds K dT ["thing"] []) (mT:mg "is_term"=some (.ref fT))
 (gF:FnOk P w K mg base CX0 4 fF dF ["thing"] spFq) (kF:PySem.W.keepIn K (.ref fF)=true) (bF:Binds K dF ["thing"] []) (mF:mg "is_fraction"=some (.ref fF))
 (mZ:mg "ZERO"=some (.ref Z)) (hZ:∀H:Hp,SqT K H Z [.int 0, .int 1]):FnOk P w K mg base CX0 42 f fd ["thing"] spPr:=by
 refine F.ok scPr (fun vs H Q E h=> ?_) (fun cdv A outer s H vs Q E hr h=> ?_)
 · obtain ⟨v,u,rfl,_⟩:=h
   rfl
 obtain ⟨v,p,rfl,hv,ok,hd,k⟩:=h
 have hr1:Room 1 _:=hr.mono (by decide)
 have hr4:Room 4 _:=hr.mono (by decide)
 have hu1:=i5 hr
 refine ⟨_,ai (ak (b7 (af gO hr1 rfl mO kO bO .nil aj (a9 (pv 0) (a9 ac aa))) (b7 (af gT hr rfl mT kT bT .nil aj (a9 (aq ar (pv 0) ac fun _ _=>rfl) aa)) (b7 (af gF hr4 rfl mF kF bF .nil aj (a9 (aq ar (pv 0) ac fun _ _=>rfl) aa))
  (bn (aY (vW hu1) (aq ar (pv 0) ac fun _ _=>rfl) (jh (v:= .ref Z) rfl mZ rfl) (ax _))))))),?_⟩
 refine ⟨_,rfl,v,p,2,rfl,hv,_,rfl,?_⟩
 cases e2:toB 2 p with
 |false=>
  have k':=k H (Same.refl H)
  rw [lR e2] at k'
  exact iteF k'
 |true=>
  obtain ⟨a,b,rfl⟩:∃a b,p= .tup [a,b]:=by
   rcases fK p with h|⟨a,b,c,rfl⟩|⟨h,_⟩
   · exact h
   · simp [toB] at e2
   · rw [h] at e2
     cases e2
  obtain ⟨r,x,y,rfl,g,hx,hy⟩:=pl2 hv
  obtain ⟨oa,ob⟩:=ok2 ok
  obtain ⟨da,db⟩:=dep2 hd
  have k2:∀H',Same H H'→Q (.bl (tmB 20 a&& (frB b&& !zB b))) H':=k
  refine iteT ⟨_,rfl,r,_,0,_,rfl,rfl,SqT.of g,rfl,x,a,rfl,hx,oa.sm,da,fun H1 s1=>⟨_,rfl,?_⟩⟩
  cases e3:tmB 20 a with
  |false=>
   rw [e3] at k2
   exact iteF (k2 _ s1)
  |true=>
   rw [e3] at k2
   have g1:=s1 _ _ g
   refine iteT ⟨_,rfl,r,_,1,_,rfl,rfl,SqT.of g1,rfl,y,b,rfl,hy.mono (Ke.of_same s1),ob.big,fun H2 s2=>⟨_,rfl,?_⟩⟩
   have s12:=s1.trans s2
   cases e4:frB b with
   |false=>
    rw [e4] at k2
    exact iteF (k2 _ s12)
   |true=>
    rw [e4] at k2
    obtain ⟨i,j,rfl⟩:=o7 e4
    obtain ⟨q,y1,y2,rfl,gq,h1,h2⟩:=pl2 (hy.mono (Ke.of_same s12))
    unfold PlAt at h1 h2
    subst h1 h2
    refine iteT ⟨_,rfl,r,_,1,_,rfl,rfl,SqT.of (s12 _ _ g),rfl,q,Z,i,j,0,1,rfl,rfl,SqT.of gq,hZ _,?_⟩
    exact k2 _ s12
def n5:Sp:=fun vs H Q _=>∃(v:V) (p:Pl),vs= [v]∧PlAt H v p∧Ok p∧pdep p < 22∧∀H',Same H H'→Q (.bl (smB p)) H'
theorem xh:az ["thing"] ["thing"] (ag sSmQ):=⟨rfl,rfl,rfl,by decide +kernel,rfl,by decide +kernel,by decide +kernel⟩
theorem pw {α:Type} (l:List α) (i:Nat) {x y:α} (ex:l[i]?=some x) (ey:l[1+i]?=some y):(l.zip (l.drop 1)).take (i+1)=(l.zip (l.drop 1)).take i++ [(x,y)]:=by
 rw [z7]
 have:(l.zip (l.drop 1))[i]?=some (x,y):=by
  rw [List.getElem?_zip_eq_some]
  refine ⟨ex,?_⟩
  rw [List.getElem?_drop]
  exact ey
 rw [this]
 rfl
theorem w8 {f fP:Addr} {fd dP:FuncData} (F:Fun K "is_sum" "is_sum" sSmQ f fd) (B:Blt mg)
 (gP:FnOk P w K mg base CX0 42 fP dP ["thing"] spPr) (kP:PySem.W.keepIn K (.ref fP)=true) (bP:Binds K dP ["thing"] []) (mP:mg "is_pair"=some (.ref fP)):FnOk P w K mg base CX0 43 f fd ["thing"] n5:=by
 refine F.ok xh (fun vs H Q E h=> ?_) (fun cdv A outer s H vs Q E hr h=> ?_)
 · obtain ⟨v,us,rfl,_⟩:=h
   rfl
 obtain ⟨v,p,rfl,hv,ok,hd,k⟩:=h
 have hun:=hr.units
 have hu50:_+50 < cLine:=yG (yW (by decide) _) hun
 have nd2:(["one","other"]:List Str).Nodup:=by decide +kernel
 refine ⟨_,ae (aM (PW.pt (bQ (aS (aJ (ao (r:=rIsi K) aN rfl B.isi am (a9 (pv 0) (a9 (aT (v:= .ty "tuple") rfl B.tu PyProof.Rows.boot_tuple rfl) aa))))) (bK (aS (aJ (ao (dQ rfl) rfl B.al PyProof.Rows.boot_all (a9 (br (NC:= ["pair"]) (mp:= [none]) rfl (fk (pv 0)) (fun _ _ _ _ _=>aQ (i:=0) (by simp) rfl (Or.inl rfl)) (fun _ _ _ _ _=>cu) (fun _ _ _ _ _=>af gP hr rfl mP kP bP .nil aj (a9 (pv 0) aa))) aa))))))) (ai (ak bR)) aw)
  (ai (ak (ao (dQ rfl) rfl B.al PyProof.Rows.boot_all (a9 (br (NC:= ["one","other"]) (mp:= [none,none]) (g:=gTup K 2 (kX (dn 0) (kX (dn 1) gNil))) rfl (tJ (k:= .tup) rfl B.zi (a9 (pv 0) (a9 (b9 SlW.sl_A (pv 0) (bf ac) bx) aa))) (fun _ _ _ _ _=>lU (n:=2) rfl (cP (aQ (i:=0) nd2 rfl (Or.inl rfl)) (cP (aQ (i:=1) nd2 rfl (Or.inl rfl)) jg))) (fun _ _ _ _ _=>cu)
   (fun _ _ _ _ _=>aY (r:=rLtR) (vX hu50) (aq (r:=rIxT K) ar (pv 0) ac fun _ _=>rfl) (aq (r:=rIxT K) ar (pv 1) ac fun _ _=>rfl) (ax _))) aa)))),?_⟩
 have hL20:(20000:Nat)≤sizeLine:=by decide +kernel
 refine ⟨_,rfl,v, .ty "tuple",_,bV p,rfl,bw hv, .inl ⟨rfl,bz K p⟩,_,rfl,?_⟩
 cases p with
 |tup ts=>
  have hv':=hv
  unfold PlAt at hv'
  obtain ⟨r,xs,rfl,g,hT⟩:=hv'
  have tl:=hT.len
  have okt:ts.length≤1000∧Oks ts:=by
   unfold Ok at ok
   exact ok
  have dts:∀t∈ts,pdep t < 21:=fun t m=>by
   have:=eU m
   simp only [pdep] at hd
   omega
  refine iteF ?_
  refine t5 ?_
  refine cm (rest:= []) rfl ?_
  refine ⟨_,rfl,r,rfl,⟨xs,SqT.of g⟩,fun L nL=> ?_⟩
  refine ia (xs:=xs) (fun i acc H'=>Same H H'∧H' L=some (.lst acc)∧acc=((ts.take i).map prB).map V.bl) ⟨ah nL,ad,rfl⟩ (fun i acc H' p=>SqT.of (p.1 _ _ g)) ?_ ?_
  · rintro i x acc H1 hi ex ⟨s1,hD,rfl⟩
    obtain ⟨t,et,ht⟩:=hT.get' ex
    have mt:=yw et
    refine ⟨_,rfl,x,t,rfl,ht.mono (Ke.of_same s1),lY okt.2 mt,dts t mt,fun H2 s2=> ?_⟩
    refine CompN.mk hi ?_ (s2 _ _ hD) ⟨c8 nL (s1.trans s2),ad,?_⟩
    · rw [yo,yo,yN]
      omega
    · rw [z7,et]
      simp
  rintro acc H1 ⟨s1,hL,rfl⟩
  rw [tl,zt] at hL
  refine ⟨L,_,rfl,SqL.of hL,?_⟩
  rw [show ((ts.map prB).all id)=ts.all prB by rw [List.all_map];rfl]
  have k2:∀H',Same H H'→Q (.bl (ts.all prB&&ascB ts)) H':=k
  refine ⟨_,rfl,?_⟩
  cases ea:ts.all prB with
  |false=>
   rw [ea] at k2
   exact iteT (k2 _ s1)
  |true=>
  rw [ea] at k2
  have pall:=z5.mp ea
  refine iteF ?_
  refine bc ?_
  try dsimp only
  refine jO ?_
  refine t7 ?_
  refine oJ ?_
  refine ⟨_,rfl,_,rfl,_,rfl,r,xs,rfl,s1 _ _ g,fun q H2 s2 hp=> ?_⟩
  rw [cut1 xs] at hp
  have s12:=s1.trans s2
  have g2:=s12 _ _ g
  refine ⟨r,q,xs,xs.drop 1,rfl,SqT.of g2,SqT.of hp,?_⟩
  refine rY (K':=K) (rest:= []) (xs:=xs) (ys:=xs.drop 1) rfl (by rw [yZ];omega) fun D nD=> ?_
  refine ⟨fun i acc H'=>Same H2 H'∧H' D=some (.lst acc)∧acc=(((ts.zip (ts.drop 1)).take i).map fun x=>ltT (toTr (fstP x.1)) (toTr (fstP x.2))).map V.bl,⟨ah nD,ad,rfl⟩,fun i acc H' q=>⟨SqT.of (q.1 _ _ g2),SqT.of (q.1 _ _ hp)⟩,?_,?_⟩
  · rintro i T x y acc H3 hi _ ⟨s3,hD,rfl⟩ ex ey nT
    rw [yZ] at hi
    rw [List.getElem?_drop] at ey
    have sT:=ah (o:= .tup [x,y]) nT
    have s13:=(s12.trans s3).trans sT
    obtain ⟨u,eu,hu⟩:=(hT.mono (Ke.of_same s13)).get' ex
    obtain ⟨z,ez,hz⟩:=(hT.mono (Ke.of_same s13)).get' ey
    have pair:∀ {t:Pl},t∈ts→∃a b,t= .tup [a,b]∧tmB 20 a=true:=fun {t} m=>by
     have:=pall t m
     unfold prB at this
     split at this
     · rw [yH] at this
       exact ⟨_,_,rfl,this.1⟩
     · cases this
    obtain ⟨u1,u2,rfl,tu⟩:=pair (yw eu)
    obtain ⟨z1,z2,rfl,tz⟩:=pair (yw ez)
    obtain ⟨a,a1,a2,rfl,ga,q1,_⟩:=pl2 hu
    obtain ⟨b,b1,b2,rfl,gb,q2,_⟩:=pl2 hz
    have yu:=jP 20 tu
    have yz:=jP 20 tz
    refine ⟨_,rfl,a,_,0,_,rfl,rfl,SqT.of ga,be (j:=0) rfl,_,rfl,b,_,0,_,rfl,rfl,SqT.of gb,be (j:=0) rfl,toTr u1,toTr z1,mU q1 (cT yu.1),mU q2 (cT yz.1), .inl (cT yu.1),pA 40 (by omega) yu.1 yz.1,by omega,?_⟩
    refine CompN.mk (by rw [yZ];exact hi) ?_ (sT _ _ hD) ⟨c8 nD (s3.trans sT),ad,?_⟩
    · rw [yo,yo,yN]
      omega
    · rw [pw ts i eu ez]
      simp [fstP]
  rintro acc H3 ⟨s3,hD,rfl⟩
  refine ⟨D,_,rfl,SqL.of hD,?_⟩
  have e:(((ts.zip (ts.drop 1)).take (xs.drop 1).length).map fun x=>ltT (toTr (fstP x.1)) (toTr (fstP x.2))).all id=ascB ts:=by
   rw [zg (by rw [List.length_zip,yZ,yZ];omega),List.all_map]
   rfl
  rw [e]
  exact k2 _ (s12.trans s3)
 |non=>exact iteT (iteT (k H (Same.refl H)))
 |bl b=>exact iteT (iteT (k H (Same.refl H)))
 |int i=>exact iteT (iteT (k H (Same.refl H)))
 |str z=>exact iteT (iteT (k H (Same.refl H)))
 |lst=>exact iteT (iteT (k H (Same.refl H)))
 |dct=>exact iteT (iteT (k H (Same.refl H)))
end
open PySem L2 Mth EqD Tre Wd Su
noncomputable def atB:Pl→Bool
 | .tup [k,x]=>isS "flag" k&&nmB x
 | .tup [k,a,b]=>if isS "most" k=true then smB a&&frB b else isS "like" k&& (tmB 20 a&&tmB 20 b)
 |_=>false
def isT:Pl→List Pl
 | .tup ts=>ts
 |_=> []
noncomputable def wsB:Nat→Pl→Bool
 |0,_=>false
 |n+1,p=>if toB 2 p=true then
  (match isT p with
   | [k,x]=>if isS "not" k=true then wsB n x else if (isS "both" k ||isS "either" k)=true then bV x&& (isT x).all (wsB n) else atB p
   |_=>false)
  else atB p
theorem vj {p:Pl} (h2:toB 2 p=false) (h3:toB 3 p=false):atB p=false:=by
 unfold atB
 split
 · simp [toB] at h2
 · simp [toB] at h3
 · rfl
section
variable {P:Program} {w:World} {K:PySem.W.Frag} {mg:Str→Option Value} {base:Heap}
def spAq:Sp:=fun vs H Q _=>∃(v:V) (p:Pl),vs= [v]∧PlAt H v p∧Ok p∧pdep p < 21∧∀H',Same H H'→Q (.bl (atB p)) H'
theorem scAq:az ["thing"] ["thing"] (ag sAtQ):=⟨rfl,rfl,rfl,by decide +kernel,rfl,by decide +kernel,by decide +kernel⟩
theorem xP {f fO fN fS fF fT:Addr} {fd dO dN dS dF dT:FuncData} (F:Fun K "is_atom" "is_atom" sAtQ f fd)
 (gO:FnOk P w K mg base CX0 1 fO dO ["thing","count"] spTo) (kO:PySem.W.keepIn K (.ref fO)=true) (bO:Binds K dO ["thing","count"] []) (mO:mg "is_tuple_of"=some (.ref fO))
 (gN:FnOk P w K mg base CX0 1 fN dN ["thing"] spNm) (kN:PySem.W.keepIn K (.ref fN)=true) (bN:Binds K dN ["thing"] []) (mN:mg "is_name"=some (.ref fN))
 (gS:FnOk P w K mg base CX0 43 fS dS ["thing"] n5) (kS:PySem.W.keepIn K (.ref fS)=true) (bS:Binds K dS ["thing"] []) (mS:mg "is_sum"=some (.ref fS))
 (gF:FnOk P w K mg base CX0 4 fF dF ["thing"] spFq) (kF:PySem.W.keepIn K (.ref fF)=true) (bF:Binds K dF ["thing"] []) (mF:mg "is_fraction"=some (.ref fF))
 (gT:FnOk P w K mg base CX0 41 fT dT ["thing"] (spTm 20)) (kT:PySem.W.keepIn K (.ref fT)=true) (bT:Binds K dT ["thing"] []) (mT:mg "is_term"=some (.ref fT)):FnOk P w K mg base CX0 44 f fd ["thing"] spAq:=by
 refine F.ok scAq (fun vs H Q E h=> ?_) (fun cdv A outer s H vs Q E hr h=> ?_)
 · obtain ⟨v,u,rfl,_⟩:=h
   rfl
 obtain ⟨v,p,rfl,hv,ok,hd,k⟩:=h
 have hr1:Room 1 _:=hr.mono (by decide)
 have hr4:Room 4 _:=hr.mono (by decide)
 have hr25:Room 41 _:=hr.mono (by decide)
 have hu0:=yG (yW (show 0≤64 by decide) _) hr.units
 refine ⟨_,ae (aM (aJ (af gO hr1 rfl mO kO bO .nil aj (a9 (pv 0) (a9 ac aa)))) (ai (ak (b7 (aY (cW hu0) (aq ar (pv 0) ac fun _ _=>rfl) aG (ax _)) (bn (af gN hr1 rfl mN kN bN .nil aj (a9 (aq ar (pv 0) ac fun _ _=>rfl) aa)))))) aw)
  (ae (aM (aS (aJ (af gO hr1 rfl mO kO bO .nil aj (a9 (pv 0) (a9 ac aa))))) (ai (ak bR)) aw)
  (ae (aM (aE (cW hu0) (aq ar (pv 0) ac fun _ _=>rfl) aG (ax _)) (ai (ak (b7 (af gS hr rfl mS kS bS .nil aj (a9 (aq ar (pv 0) ac fun _ _=>rfl) aa)) (bn (af gF hr4 rfl mF kF bF .nil aj (a9 (aq ar (pv 0) ac fun _ _=>rfl) aa)))))) aw)
  (ai (ak (b7 (aY (cW hu0) (aq ar (pv 0) ac fun _ _=>rfl) aG (ax _)) (b7 (af gT hr25 rfl mT kT bT .nil aj (a9 (aq ar (pv 0) ac fun _ _=>rfl) aa)) (bn (af gT hr25 rfl mT kT bT .nil aj (a9 (aq ar (pv 0) ac fun _ _=>rfl) aa))))))))),?_⟩
 refine ⟨_,rfl,v,p,2,rfl,hv,_,rfl,?_⟩
 rcases fK p with ⟨a,b,rfl⟩|⟨a,b,c,rfl⟩|⟨e2,e3,_⟩
 · obtain ⟨r,x,y,rfl,g,hx,hy⟩:=pl2 hv
   obtain ⟨oa,ob⟩:=ok2 ok
   have k':Q (.bl (isS "flag" a&&nmB b)) H:=k H (Same.refl H)
   refine iteT ?_
   refine ⟨_,rfl,r,_,0,x,rfl,rfl,SqT.of g,rfl,a,_,hx,rfl,_,rfl,?_⟩
   cases e:isS "flag" a with
   |false=>
    rw [e] at k'
    exact iteF k'
   |true=>
    rw [e] at k'
    exact iteT ⟨_,rfl,r,_,1,y,rfl,rfl,SqT.of g,rfl,y,b,rfl,hy,qb ob.sm,k'⟩
 · obtain ⟨r,x,y,z,rfl,g,hx,hy,hz⟩:=pl3 hv
   obtain ⟨oa,ob,oc⟩:=ok3 ok
   obtain ⟨da,db,dc⟩:=dep3 hd
   have k2:∀H',Same H H'→Q (.bl (if isS "most" a=true then smB b&&frB c else isS "like" a&& (tmB 20 b&&tmB 20 c))) H':=k
   refine iteF ?_
   refine ⟨_,rfl, .ref r,_,3,rfl,hv,_,rfl,iteF ?_⟩
   refine ⟨_,rfl,r,_,0,x,rfl,rfl,SqT.of g,rfl,a,_,hx,rfl,_,rfl,?_⟩
   cases e:isS "most" a with
   |true=>
    simp only [e,if_true] at k2
    refine iteT ⟨_,rfl,r,_,1,y,rfl,rfl,SqT.of g,rfl,y,b,rfl,hy,ob,by omega,fun H1 s1=>⟨_,rfl,?_⟩⟩
    cases e2:smB b with
    |false=>
     rw [e2] at k2
     exact iteF (k2 _ s1)
    |true=>
     rw [e2] at k2
     exact iteT ⟨_,rfl,r,_,2,z,rfl,rfl,SqT.of (s1 _ _ g),rfl,z,c,rfl,hz.mono (Ke.of_same s1),oc.big,fun H2 s2=>k2 _ (s1.trans s2)⟩
   |false=>
    simp only [e,yA,if_false] at k2
    refine iteF ⟨_,rfl,r,_,0,x,rfl,rfl,SqT.of g,rfl,a,_,hx,rfl,_,rfl,?_⟩
    cases e2:isS "like" a with
    |false=>
     rw [e2] at k2
     exact iteF (k2 _ (Same.refl H))
    |true=>
     rw [e2] at k2
     refine iteT ⟨_,rfl,r,_,1,y,rfl,rfl,SqT.of g,rfl,y,b,rfl,hy,ob.sm,db,fun H1 s1=>⟨_,rfl,?_⟩⟩
     cases e3:tmB 20 b with
     |false=>
      rw [e3] at k2
      exact iteF (k2 _ s1)
     |true=>
      rw [e3] at k2
      exact iteT ⟨_,rfl,r,_,2,z,rfl,rfl,SqT.of (s1 _ _ g),rfl,z,c,rfl,hz.mono (Ke.of_same s1),oc.sm,dc,fun H2 s2=>k2 _ (s1.trans s2)⟩
 · rw [e2]
   refine iteF ⟨_,rfl,v,p,3,rfl,hv,_,rfl,?_⟩
   rw [e3]
   have k':=k H (Same.refl H)
   rw [vj e2 e3] at k'
   exact iteT k'
def pW (n:Nat):Sp:=fun vs H Q _=>∃(v:V) (p:Pl),vs= [v]∧PlAt H v p∧Ok p∧pdep p < n∧∀H',Same H H'→Q (.bl (wsB n p)) H'
theorem xc:az ["thing"] ["thing"] (ag sWsQ):=⟨rfl,rfl,rfl,by decide +kernel,rfl,by decide +kernel,by decide +kernel⟩
theorem vZ {f fO fA:Addr} {fd dO dA:FuncData} (F:Fun K "is_wish" "is_wish" sWsQ f fd) (bF:Binds K fd ["thing"] []) (mF:mg "is_wish"=some (.ref f)) (B:Blt mg)
 (gO:FnOk P w K mg base CX0 1 fO dO ["thing","count"] spTo) (kO:PySem.W.keepIn K (.ref fO)=true) (bO:Binds K dO ["thing","count"] []) (mO:mg "is_tuple_of"=some (.ref fO))
 (gA:FnOk P w K mg base CX0 44 fA dA ["thing"] spAq) (kA:PySem.W.keepIn K (.ref fA)=true) (bA:Binds K dA ["thing"] []) (mA:mg "is_atom"=some (.ref fA)):∀n,n≤21→FnOk P w K mg base CX0 (n+45) f fd ["thing"] (pW n):=by
 intro n
 induction n with
 |zero=>exact fun _=>⟨fun vs H Q E ⟨_,_,_,_,_,h,_⟩=>absurd h (by omega),fun A outer s H args us vs Q E _ _ _ _ ⟨_,_,_,_,_,h,_⟩=>absurd h (by omega)⟩
 |succ n ih=>
  intro hn
  replace ih:=ih (by omega)
  refine F.ok xc (fun vs H Q E h=> ?_) (fun cdv A outer s H vs Q E hr h=> ?_)
  · obtain ⟨v,u,rfl,_⟩:=h
    rfl
  obtain ⟨v,p,rfl,hv,ok,hd,k⟩:=h
  have hr1:Room 1 _:=hr.mono (by omega)
  have hr28:Room 44 _:=hr.mono (by omega)
  have hu0:=yG (yW (show 0≤64 by decide) _) hr.units
  refine ⟨_,ae (aM (aS (aJ (af gO hr1 rfl mO kO bO .nil aj (a9 (pv 0) (a9 ac aa))))) (ai (ak (af gA hr28 rfl mA kA bA .nil aj (a9 (pv 0) aa)))) aw)
   (ae (aM (aE (cW hu0) (aq ar (pv 0) ac fun _ _=>rfl) aG (ax _)) (ai (ak (af ih hr rfl mF F.kp bF .nil aj (a9 (aq ar (pv 0) ac fun _ _=>rfl) aa)))) aw)
   (ae (aM (PW.pt (bQ (aE (cW hu0) (aq ar (pv 0) ac fun _ _=>rfl) aG (ax _)) (bK (aE (cW hu0) (aq ar (pv 0) ac fun _ _=>rfl) aG (ax _)))))
    (ai (ak (b7 (ao (r:=rIsi K) aN rfl B.isi am (a9 (aq ar (pv 0) ac fun _ _=>rfl) (a9 (aT (v:= .ty "tuple") rfl B.tu PyProof.Rows.boot_tuple rfl) aa))) (bn (ao (dQ rfl) rfl B.al PyProof.Rows.boot_all (a9 (br (NC:= ["inner"]) (mp:= [none]) rfl (fk (aq ar (pv 0) ac fun _ _=>rfl)) (fun _ _ _ _ _=>aQ (i:=0) (by simp) rfl (Or.inl rfl)) (fun _ _ _ _ _=>cu) (fun _ _ _ _ _=>af ih hr rfl mF F.kp bF .nil aj (a9 (pv 0) aa))) aa)))))) aw)
   (ai (ak (af gA hr28 rfl mA kA bA .nil aj (a9 (pv 0) aa)))))),?_⟩
  have hL20:(20000:Nat)≤sizeLine:=by decide +kernel
  refine ⟨_,rfl,v,p,2,rfl,hv,_,rfl,?_⟩
  cases e2:toB 2 p with
  |false=>
   have ew:wsB (n+1) p=atB p:=by rw [wsB,if_neg (by rw [e2];exact yI)]
   rw [ew] at k
   exact iteT ⟨_,rfl,v,p,rfl,hv,ok,by omega,fun H1 s1=>k _ s1⟩
  |true=>
   obtain ⟨a,b,rfl⟩:∃a b,p= .tup [a,b]:=by
    rcases fK p with h|⟨a,b,c,rfl⟩|⟨h,_⟩
    · exact h
    · simp [toB] at e2
    · rw [h] at e2
      cases e2
   have ew:wsB (n+1) (.tup [a,b])=if isS "not" a=true then wsB n b else if (isS "both" a ||isS "either" a)=true then bV b&& (isT b).all (wsB n) else atB (.tup [a,b]):=by
    rw [wsB,if_pos e2]
    rfl
   rw [ew] at k
   obtain ⟨r,x,y,rfl,g,hx,hy⟩:=pl2 hv
   obtain ⟨oa,ob⟩:=ok2 ok
   obtain ⟨da,db⟩:=dep2 hd
   refine iteF ?_
   refine ⟨_,rfl,r,_,0,x,rfl,rfl,SqT.of g,rfl,a,_,hx,rfl,_,rfl,?_⟩
   cases en:isS "not" a with
   |true=>
    simp only [en,if_true] at k
    exact iteT ⟨_,rfl,r,_,1,y,rfl,rfl,SqT.of g,rfl,y,b,rfl,hy,ob,db,fun H1 s1=>k _ s1⟩
   |false=>
   simp only [en,yA,if_false] at k
   refine iteF ?_
   refine bc ?_
   try dsimp only
   refine sY (b1:=isS "both" a) (b2:=isS "either" a) (fun Q q=>⟨_,rfl,r,_,0,x,rfl,rfl,SqT.of g,rfl,a,_,hx,rfl,_,rfl,q⟩) (fun Q q=>⟨_,rfl,r,_,0,x,rfl,rfl,SqT.of g,rfl,a,_,hx,rfl,_,rfl,q⟩) ?_
   cases ebe:(isS "both" a ||isS "either" a) with
   |false=>
    simp only [ebe,yA,if_false] at k
    exact iteF ⟨_,rfl, .ref r,_,rfl,hv,ok,by omega,fun H1 s1=>k _ s1⟩
   |true=>
   simp only [ebe,if_true] at k
   refine iteT ?_
   refine jO ?_
   refine pJ ?_
   refine ⟨_,rfl,r,_,1,y,rfl,rfl,SqT.of g,rfl,y, .ty "tuple",_,bV b,rfl,bw hy, .inl ⟨rfl,bz K b⟩,_,rfl,?_⟩
   cases et:bV b with
   |false=>
    rw [et] at k
    exact iteF (k _ (Same.refl H))
   |true=>
   rw [et] at k
   cases b with
   |tup ts=>
    have hv':=hy
    unfold PlAt at hv'
    obtain ⟨c,cs,rfl,gc,hT⟩:=hv'
    have tl:=hT.len
    have okt:ts.length≤1000∧Oks ts:=by
     unfold Ok at ob
     exact ob
    refine iteT ?_
    refine cm (rest:= []) rfl ?_
    refine ⟨_,rfl,r,_,1,_,rfl,rfl,SqT.of g,rfl,c,rfl,⟨cs,SqT.of gc⟩,fun L nL=> ?_⟩
    refine ia (xs:=cs) (fun i acc H'=>Same H H'∧H' L=some (.lst acc)∧acc=((ts.take i).map (wsB n)).map V.bl) ⟨ah nL,ad,rfl⟩ (fun i acc H' p=>SqT.of (p.1 _ _ gc)) ?_ ?_
    · rintro i z acc H1 hi ex ⟨s1,hD,rfl⟩
      obtain ⟨t,et,ht⟩:=hT.get' ex
      have mt:=yw et
      refine ⟨_,rfl,z,t,rfl,ht.mono (Ke.of_same s1),lY okt.2 mt,?_,fun H2 s2=> ?_⟩
      · have:=eU mt
        simp only [pdep] at db
        omega
      refine CompN.mk hi ?_ (s2 _ _ hD) ⟨c8 nL (s1.trans s2),ad,?_⟩
      · rw [yo,yo,yN]
        omega
      · rw [z7,et]
        simp
    · rintro acc H1 ⟨s1,hL,rfl⟩
      rw [tl,zt] at hL
      refine ⟨L,_,rfl,SqL.of hL,?_⟩
      rw [show ((ts.map (wsB n)).all id)=ts.all (wsB n) by rw [List.all_map];rfl]
      exact k _ s1
   |_=>cases et
end
open PySem L2 Mth Tre
def FeedAt (H:Hp) (f c:Addr):Prop:=∃(cells:List Int) (b n:Int),H f=some (.lst [.ref c, .int b, .int n])∧H c=some (.lst (cells.map V.int))∧0 < cells.length∧cells.length≤63∧f≠c
def Keep (f c:Addr) (H H':Hp):Prop:=∀x,x≠f→x≠c→H' x=H x
theorem Keep.refl {f c:Addr} {H:Hp}:Keep f c H H:=fun _ _ _=>rfl
theorem Keep.trans {f c:Addr} {H H1 H2:Hp} (a:Keep f c H H1) (b:Keep f c H1 H2):Keep f c H H2:=fun x h1 h2=>(b x h1 h2).trans (a x h1 h2)
theorem i9 (ns:List Int) (lo hi:Option Int):∃ms:List Int,cutV (ns.map V.int) lo hi=ms.map V.int∧ms.length≤ns.length:=by
 refine ⟨(ns.drop (HT.sIx (ns.map V.int).length 0 lo)).take (HT.sIx (ns.map V.int).length (ns.map V.int).length hi - HT.sIx (ns.map V.int).length 0 lo),?_,?_⟩
 · unfold cutV
   rw [List.map_take,List.map_drop]
 · rw [yN,yZ]
   omega
theorem wW {ns:List Int} {i:Int} (h0:0≤i) (h1:i < ns.length):∃(j:Nat) (z:Int),i=(j:Int)∧j < ns.length∧atI (ns.map V.int) i=some (.int z)∧ixN (ns.map V.int).length i=some j:=by
 obtain ⟨j,rfl⟩:∃j:Nat,i=(j:Int):=⟨i.toNat,by omega⟩
 have hj:j < ns.length:=by omega
 refine ⟨j,ns[j],rfl,hj,be (by simp [hj]),?_⟩
 unfold ixN
 rw [if_pos h0,yo,if_pos h1,yT]
theorem FeedAt.keep {f c:Addr} {H H':Hp} (x:FeedAt H f c) (e1:H' f=H f) (e2:H' c=H c):FeedAt H' f c:=by
 obtain ⟨cells,b,n,h1,h2,r⟩:=x
 exact ⟨cells,b,n,e1.trans h1,e2.trans h2,r⟩
theorem FeedAt.same {f c:Addr} {H H':Hp} (x:FeedAt H f c) (s:Same H H'):FeedAt H' f c:=by
 obtain ⟨cells,b,n,h1,h2,r⟩:=x
 exact ⟨cells,b,n,s _ _ h1,s _ _ h2,r⟩
theorem FeedAt.ne {f c r:Addr} {H:Hp} (x:FeedAt H f c) (h:H r=none):r≠f∧r≠c:=by
 obtain ⟨cells,b,n,h1,h2,_⟩:=x
 exact ⟨(aK h1 h).symm,(aK h2 h).symm⟩
def But (f c:Addr) (H H':Hp):Prop:=∀x o,x≠f→x≠c→H x=some o→H' x=some o
theorem But.of_keep {f c:Addr} {H H':Hp} (k:Keep f c H H'):But f c H H':=fun x o h1 h2 e=>(k x h1 h2).trans e
theorem But.of_same {f c:Addr} {H H':Hp} (k:Same H H'):But f c H H':=fun x o _ _ e=>k x o e
theorem But.trans {f c:Addr} {H H1 H2:Hp} (a:But f c H H1) (b:But f c H1 H2):But f c H H2:=fun x o h1 h2 e=>b x o h1 h2 (a x o h1 h2 e)
theorem But.wr {f c D:Addr} {H H':Hp} {o:HO} (b:But f c H H') (h:H D=none):But f c H (upd H' D o):=fun x u n1 n2 e=>by
 rw [aF (aK e h)]
 exact b x u n1 n2 e
theorem FeedAt.wr {f c D:Addr} {H:Hp} {o:HO} (x:FeedAt H f c) (h:D≠f∧D≠c):FeedAt (upd H D o) f c:=x.keep (aF h.1.symm) (aF h.2.symm)
theorem But.free {f c D:Addr} {H H':Hp} (b:But f c H H') (x:FeedAt H' f c) (h:H' D=none):H D=none:=by
 obtain ⟨n1,n2⟩:=x.ne h
 cases e:H D with
 |none=>rfl
 |some o=>
  rw [b D o n1 n2 e] at h
  cases h
theorem aW {m:Int} (h0:0≤m) (h:m≤1000000):Big m:=by
 unfold Big
 have:(1000000:Nat) < 2^8000:=by decide +kernel
 exact yG (by omega) this
theorem But.kd {f c:Addr} {H H':Hp} (b:But f c H H') (x:FeedAt H f c) (y:FeedAt H' f c):Kd H H':=by
 obtain ⟨cells,u,n,h1,h2,_⟩:=x
 obtain ⟨cells',u',n',h1',h2',_⟩:=y
 refine ⟨fun a zs h=>b a _ (fun z=> ?_) (fun z=> ?_) h,fun a zs h=> ?_⟩
 · rw [z,h1] at h
   cases h
 · rw [z,h2] at h
   cases h
 · by_cases z:a=f
   · subst z
     exact ⟨_,h1'⟩
   · by_cases z':a=c
     · subst z'
       exact ⟨_,h2'⟩
     · exact ⟨zs,b a _ z z' h⟩
section
variable {P:Program} {w:World} {K:PySem.W.Frag} {mg:Str→Option Value} {base:Heap}
def qa (K:PySem.W.Frag):Sp:=fun vs H Q _=>∃(a:Addr) (ns:List Int),vs= [.ref a]∧SqL K H a (ns.map V.int)∧ns.length≤63∧∀(f c:Addr) (H':Hp),H f=none→H c=none→Same H H'→FeedAt H' f c→Q (.ref f) H'
theorem scFd:az ["_law_script","_law_cells"] ["_law_script"] (ag iF):=⟨rfl,rfl,rfl,by decide +kernel,rfl,by decide +kernel,by decide +kernel⟩
theorem tZ {f:Addr} {fd:FuncData} (F:Fun K "_law_feed" "_law_feed" iF f fd) (B:Blt mg):FnOk P w K mg base CX0 1 f fd ["_law_script"] (qa K):=by
 refine F.ok scFd (fun vs H Q E h=> ?_) (fun cdv A outer s H vs Q E hr h=> ?_)
 · obtain ⟨a,ns,rfl,_⟩:=h
   rfl
 · obtain ⟨a,ns,rfl,hS,hl,k⟩:=h
   refine ⟨_,ae (aA (i:=1) scFd.nd rfl (Or.inl rfl) (bJ de rfl B.li PyProof.Rows.boot_list (a9 (b9 jf (pv 0) (bf ac) (bf ac)) aa)))
    (ae (aM (aE cf (ao aU rfl B.le PySem.boot_len (a9 (pv 1) aa)) ac (ax _))
     (ai (aA (i:=1) scFd.nd rfl (Or.inl rfl) (aR (a9 (aB tS (ao (iS rfl) rfl B.su lA (a9 (b9 jf (pv 0) bx (bf ac)) aa)) ac) aa)))) aw)
    (ai (ak (aR (a9 (pv 1) (a9 (aB cB (ao (iS rfl) rfl B.su lA (a9 (b9 jf (pv 0) bx (bf ac)) aa)) ac) (a9 ac aa))))))),?_⟩
   refine ⟨_,rfl,1,rfl,63,rfl,a,_,rfl,hS,fun p hp=> ?_⟩
   obtain ⟨ms,em,lm⟩:=i9 ns (some 1) (some 63)
   rw [em]
   refine ⟨p,_,rfl, .inl (SqL.of ad),fun c0 hc0=> ?_⟩
   have s1:Same H (upd (upd H p (.lst (ms.map V.int))) c0 (.lst (ms.map V.int))):=(ah hp).trans (ah hc0)
   have n1:H c0=none:=(ah hp).free hc0
   have last:∀(H1:Hp) (c:Addr) (cells:List Int),Same H H1→H c=none→H1 c=some (.lst (cells.map V.int))→0 < cells.length→cells.length≤63→
    (tRet (tLst (bE (tVar 1) (bE (tOp (rI (fun _ j=>0 < j) fun i j=> .int (i%j)) (tCB (fun xs H Q=>∃(p:Addr) (ns:List Int),xs= [.ref p]∧SqL K H p (ns.map V.int)∧Q (.int ns.sum) H) (bE (tSl (rSlL K) (tVar 0) mY (uR (tC (.int 1)))) tNil)) (tC (.int 2))) (bE (tC (.int 0)) tNil)))))
     {nx:=fun _ H'=>Q .non H',rt:=Q} [some (.ref a),some (.ref c)] H1:=by
    intro H1 c cells sm nc hc h0 h63
    refine ⟨_,rfl,_,rfl,1,rfl,a,_,rfl,sm.seq hS,fun p2 hp2=> ?_⟩
    obtain ⟨ls,el,ll⟩:=i9 ns none (some 1)
    rw [el]
    refine ⟨p2,ls,rfl,SqL.of ad,_,_,rfl,rfl,(by show (0:Int) < 2;decide),by show 3≤sizeLine;decide,fun f hf=> ?_⟩
    have s2:Same H (upd (upd H1 p2 (.lst (ls.map V.int))) f (.lst [.ref c, .int (ls.sum%2), .int 0])):=sm.trans ((ah hp2).trans (ah hf))
    have s3:Same H (upd H1 p2 (.lst (ls.map V.int))):=sm.trans (ah hp2)
    have hc2:(upd H1 p2 (.lst (ls.map V.int))) c=some (.lst (cells.map V.int)):=ah hp2 _ _ hc
    refine k f c _ (s3.free hf) nc s2 ⟨cells,_,_,ad,?_,h0,h63,fun z=> ?_⟩
    · rw [aF (aK hc2 hf)]
      exact hc2
    · rw [z,hc2] at hf
      cases hf
   refine ⟨_,rfl,c0,_,rfl, .inl (SqL.of ad),rfl,_,rfl,?_⟩
   rw [yo]
   by_cases z:ms.length=0
   · have z':V.int ((ms.length:Nat):Int)=V.int 0:=by rw [z];rfl
     rw [decide_eq_true z']
     refine iteT ?_
     refine ⟨_,rfl,1,rfl,a,_,rfl,s1.seq hS,fun p2 hp2=> ?_⟩
     obtain ⟨ls,el,ll⟩:=i9 ns none (some 1)
     rw [el]
     refine ⟨p2,ls,rfl,SqL.of ad,_,_,rfl,rfl,⟨by decide,by decide⟩,by show 1≤sizeLine;decide,fun c hc=> ?_⟩
     have s3:=s1.trans (ah (o:= .lst (ls.map V.int)) hp2)
     exact last _ c [ls.sum / 2] (s3.trans (ah hc)) (s3.free hc) ad (by show 0 < 1;decide) (by show 1≤63;decide)
   · have z':¬V.int ((ms.length:Nat):Int)=V.int 0:=fun q=>z (by have:=V.int.inj q;omega)
     rw [decide_eq_false z']
     refine iteF ?_
     exact last _ c0 ms s1 n1 ad (by omega) (by omega)
def bY:Sp:=fun vs H Q _=>∃(f c:Addr) (m:Int),vs= [.ref f, .int m]∧FeedAt H f c∧0 < m∧Big m∧∀(r:Int) (H':Hp),0≤r→r < m→FeedAt H' f c→Keep f c H H'→Q (.int r) H'
theorem scD:az ["_law_feed_here","_law_many","_law_at","_law_k","_law_cell"] ["_law_feed_here","_law_many"] (ag cO):=⟨rfl,rfl,rfl,by decide +kernel,rfl,by decide +kernel,by decide +kernel⟩
theorem cw {f:Addr} {fd:FuncData} (F:Fun K "_law_draw" "_law_draw" cO f fd) (B:Blt mg):FnOk P w K mg base CX0 1 f fd ["_law_feed_here","_law_many"] bY:=by
 refine F.ok scD (fun vs H Q E h=> ?_) (fun cdv A outer s H vs Q E hr h=> ?_)
 · obtain ⟨f,c,m,rfl,_⟩:=h
   rfl
 · obtain ⟨f,c,m,rfl,⟨cells,b,n,hf,hc,l0,l63,nfc⟩,m0,mB,k⟩:=h
   refine ⟨_,ae (aA (i:=2) scD.nd rfl (Or.inl rfl) (aq aO (pv 0) ac fun _ _=>rfl))
    (ae (lQ (aB bU (pv 2) ac) (qH (pv 0) ac jV))
    (ae (aA (i:=3) scD.nd rfl (Or.inl rfl) (aB cB (pv 2) (ao aU rfl B.le PySem.boot_len (a9 (aq aO (pv 0) ac fun _ _=>rfl) aa))))
    (ae (aA (i:=4) scD.nd rfl (Or.inl rfl) (aq aO (aq aO (pv 0) ac fun _ _=>rfl) (pv 3) fun _ _=>rfl))
    (ae (aM (aE cf (aq aO (pv 0) ac fun _ _=>rfl) ac (ax _))
     (ae (lQ (aB h9 (pv 4) (pv 1)) (qH (aq aO (pv 0) ac fun _ _=>rfl) (pv 3) jV)) (ai (ak (aB cB (pv 4) (pv 1))))) aw)
    (ai (ak (aB cB (aB cB (aB fm (aB cB (aB fm (aB bU (pv 4) (aB fm ac (pv 2))) ac) ac) ac) ac) (pv 1)))))))),?_⟩
   refine ⟨_,rfl,f,_,2, .int n,rfl,rfl,SqL.of hf,rfl,?_⟩
   refine ⟨_,rfl,_,_,rfl,rfl,_,rfl,f,_,2,2,rfl,rfl,hf,rfl,?_⟩
   have hf1:(upd H f (.lst ([V.ref c, .int b, .int n].set 2 (.int (n+1))))) f=some (.lst [.ref c, .int b, .int (n+1)]):=ad
   have hc1:(upd H f (.lst ([V.ref c, .int b, .int n].set 2 (.int (n+1))))) c=some (.lst (cells.map V.int)):=by rw [aF (Ne.symm nfc)];exact hc
   have k1:Keep f c H (upd H f (.lst ([V.ref c, .int b, .int n].set 2 (.int (n+1))))):=fun x h1 _=>aF h1
   generalize upd H f (.lst ([V.ref c, .int b, .int n].set 2 (.int (n+1))))=H1 at hf1 hc1 k1 ⊢
   refine ⟨_,rfl,_,rfl,f,_,0, .ref c,rfl,rfl,SqL.of hf1,rfl,c,_,rfl, .inl (SqL.of hc1),n,_,rfl,rfl,(by rw [yo];omega),?_⟩
   rw [yo]
   have q0:(0:Int)≤n%(cells.length:Int):=Int.emod_nonneg _ (by omega)
   have q1:n%(cells.length:Int) < (cells.length:Int):=zv _ (by omega)
   obtain ⟨j,z,ek,hj,ha,hix⟩:=wW q0 q1
   refine ⟨_,rfl,f,_,0, .ref c,rfl,rfl,SqL.of hf1,rfl,_,rfl,c,_,n%(cells.length:Int), .int z,rfl,rfl,SqL.of hc1,ha,?_⟩
   refine ⟨_,rfl,f,_,1, .int b,rfl,rfl,SqL.of hf1,rfl,rfl,_,rfl,?_⟩
   refine ite2 (fun _=> ?_) (fun _=> ?_)
   · refine ⟨_,rfl,_,rfl,z,m,rfl,rfl,⟨m0,mB⟩,_,rfl,f,_,0, .ref c,rfl,rfl,SqL.of hf1,rfl,_,rfl,c,_,n%(cells.length:Int),j,rfl,rfl,hc1,hix,?_⟩
     refine ⟨_,rfl,_,rfl,z,m,rfl,rfl,m0,?_⟩
     refine k _ _ (Int.emod_nonneg _ (by omega)) (zv _ m0) ⟨cells.set j (z / m),b,n+1,?_,?_,?_,?_,nfc⟩ (k1.trans fun x _ h2=>aF h2)
     · rw [aF nfc]
       exact hf1
     · rw [List.map_set]
       exact ad
     · rw [List.length_set]
       exact l0
     · rw [List.length_set]
       exact l63
   · refine ⟨_,rfl,_,rfl,31,n,rfl,rfl, .inl ⟨by decide,by decide⟩,z,31*n,rfl,rfl,_,48271,rfl,rfl, .inr ⟨by decide,by decide⟩,_,2147483647,rfl,rfl,(by show (0:Int) < 2147483647;decide),_,69621,rfl,rfl, .inr ⟨by decide,by decide⟩,_,2147483629,rfl,rfl,(by show (0:Int) < 2147483629;decide),_,rfl,_,m,rfl,rfl,m0,?_⟩
     exact k _ _ (Int.emod_nonneg _ (by omega)) (zv _ m0) ⟨cells,b,n+1,hf1,hc1,l0,l63,nfc⟩ k1
end
open PySem L2 Mth Tre Wd
section
variable {P:Program} {w:World} {K:PySem.W.Frag} {mg:Str→Option Value} {base:Heap}
def T59:Int:=10^59
def jc:Sp:=fun vs H Q _=>∃(f c:Addr) (m:Int),vs= [.ref f, .int m]∧FeedAt H f c∧0≤m∧m≤2*T59∧∀(r:Int) (H':Hp),0≤r→r≤m→FeedAt H' f c→Keep f c H H'→Q (.int r) H'
theorem scG:az ["_law_feed_here","_law_most","_law_number","_law_k"] ["_law_feed_here","_law_most"] (ag di):=⟨rfl,rfl,rfl,by decide +kernel,rfl,by decide +kernel,by decide +kernel⟩
theorem ye {m:Int} (h0:0≤m) (h1:m≤2*T59):Big (m+1):=by
 have e:(2*T59+1).natAbs < 2^8000:=by decide +kernel
 unfold Big
 have:(m+1).natAbs≤(2*T59+1).natAbs:=by omega
 exact yG this e
theorem kj {f fD:Addr} {fd fdD:FuncData} (F:Fun K "_law_great" "_law_great" di f fd) (FD:Fun K "_law_draw" "_law_draw" cO fD fdD) (bD:Binds K fdD ["_law_feed_here","_law_many"] []) (mD:mg "_law_draw"=some (.ref fD)) (B:Blt mg):
 FnOk P w K mg base CX0 2 f fd ["_law_feed_here","_law_most"] jc:=by
 have GD:FnOk P w K mg base CX0 1 fD fdD ["_law_feed_here","_law_many"] bY:=cw FD B
 refine F.ok scG (fun vs H Q E h=> ?_) (fun cdv A outer s H vs Q E hr h=> ?_)
 · obtain ⟨f,c,m,rfl,_⟩:=h
   rfl
 · obtain ⟨f,c,m,rfl,hF,m0,m1,k⟩:=h
   obtain ⟨cells,b,n,hf,hc,l0,l63,nfc⟩:=id hF
   refine ⟨_,ae (aM (aE cf (aq aO (pv 0) ac fun _ _=>rfl) ac (ax _)) (ai (ak (af GD hr rfl mD FD.kp bD .nil aj (a9 (pv 0) (a9 (aB bU (pv 1) ac) aa))))) aw)
    (ae (aA (i:=2) scG.nd rfl (Or.inl rfl) ac)
    (ae (fj PassesOwn.never rfl (bZ rfl B.ra (a9 ac aa)) (aQ (i:=3) scG.nd rfl (Or.inl rfl))
     (ai (aA (i:=2) scG.nd rfl (Or.inl rfl) (aB bU (aB fm (pv 2) (aB jk ac ac)) (af GD hr rfl mD FD.kp bD .nil aj (a9 (pv 0) (a9 (aB jk ac ac) aa)))))))
    (ai (ak (aB cB (pv 2) (aB bU (pv 1) ac)))))),?_⟩
   refine ⟨_,rfl,f,_,1, .int b,rfl,rfl,SqL.of hf,rfl,rfl,_,rfl,?_⟩
   refine ite2 (fun _=> ?_) (fun _=> ?_)
   · refine ⟨_,rfl,_,rfl,m,1,rfl,rfl,f,c,m+1,rfl,hF,by omega,ye m0 m1,fun r H' r0 r1 hF' kp=> ?_⟩
     exact k r H' r0 (by omega) hF' kp
   · refine ⟨7,rfl,by decide,by decide,fz (lo:=0) (n:=7) (fun _ σ H'=>FeedAt H' f c∧Keep f c H H'∧∃(x:Int) (v:Option V),σ= [some (.ref f),some (.int m),some (.int x),v]) ⟨hF,Keep.refl,0,none,rfl⟩ ?_ ?_⟩
     · rintro i σ H1 hi ⟨hF1,kp1,x,v,rfl⟩
       refine ⟨_,rfl,10,9,rfl,rfl,⟨by decide,by decide,by decide⟩,x,_,rfl,rfl, .inr ⟨by decide,by decide⟩,_,rfl,10,9,rfl,rfl,⟨by decide,by decide,by decide⟩,f,c,_,rfl,hF1,by decide,by show ((10:Int)^(9:Int).toNat).natAbs < 2^8000;decide +kernel,fun r H2 r0 r1 hF2 kp2=> ?_⟩
       exact ⟨_,_,rfl,rfl,hF2,kp1.trans kp2,_,_,rfl⟩
     · rintro σ H1 ⟨hF1,kp1,x,v,rfl⟩
       refine ⟨_,rfl,_,rfl,m,1,rfl,rfl,x,m+1,rfl,rfl,by omega,?_⟩
       have q1:x%(m+1) < m+1:=zv _ (by omega)
       exact k _ _ (Int.emod_nonneg _ (by omega)) (by omega) hF1 kp1
def fJ:Sp:=fun vs H Q _=>∃(t b:Int),vs= [.int t, .int b]∧0 < b∧Big (Int.gcd t b:Int)∧∀(r:Addr) (H':Hp),H r=none→H'=upd H r (.tup [.int (t / (Int.gcd t b:Int)), .int (b / (Int.gcd t b:Int))])→Q (.ref r) H'
theorem scLo:az ["_law_top","_law_bottom","_law_one","_law_other","_law_rest"] ["_law_top","_law_bottom"] (ag sLow):=⟨rfl,rfl,rfl,by decide +kernel,rfl,by decide +kernel,by decide +kernel⟩
theorem m6 {f:Addr} {fd:FuncData} (F:Fun K "_law_lowest" "_law_lowest" sLow f fd) (B:Blt mg):FnOk P w K mg base CX0 1 f fd ["_law_top","_law_bottom"] fJ:=by
 refine F.ok scLo (fun vs H Q E h=> ?_) (fun cdv A outer s H vs Q E hr h=> ?_)
 · obtain ⟨t,b,rfl,_⟩:=h
   rfl
 · obtain ⟨t,b,rfl,b0,bg,k⟩:=h
   refine ⟨_,ae (aA (i:=2) scLo.nd rfl (Or.inl rfl) (ao lw rfl B.ab lB (a9 (pv 0) aa)))
    (ae (aA (i:=3) scLo.nd rfl (Or.inl rfl) (pv 1))
    (ae (jY PassesOwn.never (aE iK (pv 3) ac (ax _))
     (ae (aA (i:=4) scLo.nd rfl (Or.inl rfl) (aB cB (pv 2) (pv 3)))
     (ae (aA (i:=2) scLo.nd rfl (Or.inl rfl) (pv 3)) (ai (aA (i:=3) scLo.nd rfl (Or.inl rfl) (pv 4))))))
    (ai (ak (aX (a9 (aB h9 (pv 0) (pv 2)) (a9 (aB h9 (pv 1) (pv 2)) aa))))))),?_⟩
   refine ⟨_,rfl,t,rfl,_,rfl,?_⟩
   have ea:(if t < 0 then -t else t)=(t.natAbs:Int):=by split<;>omega
   rw [ea]
   have g0:0 < Int.gcd t b:=zl t (by omega)
   refine jL (fun σ H'=>H'=H∧∃(x y:Nat) (v:Option V),σ= [some (.int t),some (.int b),some (.int x),some (.int y),v]∧Nat.gcd x y=Int.gcd t b) (fun σ _=>match σ with| [_,_,_,some (.int y),_]=>y.natAbs|_=>0)
    ⟨rfl,t.natAbs,b.natAbs,none,by rw [show ((b.natAbs:Nat):Int)=b by omega];rfl,rfl⟩ ?_ ?_
   · rintro σ H' ⟨rfl,x,y,v,rfl,e⟩
     refine ⟨_,rfl,_,0,rfl,rfl,_,rfl,?_⟩
     by_cases z:(0:Int) < (y:Int)
     · rw [decide_eq_true z]
       refine iteT ?_
       refine ⟨_,rfl,_,rfl,x,y,rfl,rfl,z,_,rfl,_,rfl,?_⟩
       have hm:((x:Int)%(y:Int))=((x%y:Nat):Int):=by simp
       refine ⟨⟨rfl,y,x%y,some (.int ((x%y:Nat):Int)),?_,?_⟩,?_⟩
       · show [some (V.int t),some (V.int b),some (V.int (y:Int)),some (V.int ((x:Int)%(y:Int))),some (V.int ((x:Int)%(y:Int)))]=_
         rw [hm]
       · rw [←e,Nat.gcd_comm x y,Nat.gcd_rec y x,Nat.gcd_comm]
       · show ((x:Int)%(y:Int)).natAbs < (y:Int).natAbs
         rw [hm]
         have:=Nat.mod_lt x (show 0 < y by omega)
         omega
     · rw [decide_eq_false z]
       refine iteF ?_
       have y0:y=0:=by omega
       subst y0
       rw [Nat.gcd_zero_right] at e
       subst e
       refine ⟨_,rfl,_,rfl,t,_,rfl,rfl,⟨by omega,bg⟩,_,rfl,_,rfl,b,_,rfl,rfl,⟨by omega,bg⟩,by show 2≤sizeLine;decide,fun r hr'=> ?_⟩
       exact k r _ hr' rfl
   · intro σ H' R R' hR h
     obtain ⟨v,e1,i,j,e2,e3,q,e4,h⟩:=h
     exact ⟨v,e1,i,j,e2,e3,q,e4,hR _ _ h⟩
end
open PySem L2 Mth Tre Wd
section
variable {P:Program} {w:World} {K:PySem.W.Frag} {mg:Str→Option Value} {base:Heap}
def pY:Sp:=fun vs H Q _=>∃(f c:Addr),vs= [.ref f]∧FeedAt H f c∧∀(v:V) (H':Hp) (p:Fr),FeedAt H' f c→But f c H H'→TrAt H' v (frT p)→Gf 200 p→oz p.1 p.2→Q v H'
theorem scShr:az ["_law_feed_here","_law_most","_law_top"] ["_law_feed_here"] (ag fb):=⟨rfl,rfl,rfl,by decide +kernel,rfl,by decide +kernel,by decide +kernel⟩
def TShr:Int:=10^58
theorem tShr:(60:Int)≤TShr∧TShr≤T59∧(TShr+10).natAbs < 2^200:=by decide +kernel
theorem wd {f fD fG fL:Addr} {fd fdD fdG fdL:FuncData} (F:Fun K "_law_share" "_law_share" fb f fd) (FD:Fun K "_law_draw" "_law_draw" cO fD fdD) (bD:Binds K fdD ["_law_feed_here","_law_many"] []) (mD:mg "_law_draw"=some (.ref fD))
 (FG:Fun K "_law_great" "_law_great" di fG fdG) (bG:Binds K fdG ["_law_feed_here","_law_most"] []) (mG:mg "_law_great"=some (.ref fG)) (FL:Fun K "_law_lowest" "_law_lowest" sLow fL fdL) (bL:Binds K fdL ["_law_top","_law_bottom"] []) (mL:mg "_law_lowest"=some (.ref fL)) (B:Blt mg):
 FnOk P w K mg base CX0 3 f fd ["_law_feed_here"] pY:=by
 have GD:FnOk P w K mg base CX0 1 fD fdD ["_law_feed_here","_law_many"] bY:=cw FD B
 have GG:FnOk P w K mg base CX0 2 fG fdG ["_law_feed_here","_law_most"] jc:=kj FG FD bD mD B
 have GL:FnOk P w K mg base CX0 1 fL fdL ["_law_top","_law_bottom"] fJ:=m6 FL B
 refine F.ok scShr (fun vs H Q E h=> ?_) (fun cdv A outer s H vs Q E hr h=> ?_)
 · obtain ⟨f,c,rfl,_⟩:=h
   rfl
 obtain ⟨f,c,rfl,hF,k⟩:=h
 have hr1:Room 1 _:=hr.mono (by decide)
 refine ⟨_,ae (aA (i:=1) scShr.nd rfl (Or.inl rfl) (aq aO (aR (a9 ac (a9 ac (a9 ac (a9 ac (a9 (aB jk ac ac) aa)))))) (af GD hr1 rfl mD FD.kp bD .nil aj (a9 (pv 0) (a9 ac aa))) fun _ _=>rfl))
  (ae (aA (i:=2) scShr.nd rfl (Or.inl rfl) (aB cV (af GG hr rfl mG FG.kp bG .nil aj (a9 (pv 0) (a9 (aB fm ac (pv 1)) aa))) (pv 1)))
  (ai (ak (af GL hr1 rfl mL FL.kp bL .nil aj (a9 (pv 2) (a9 (aq aO (aR (a9 ac (a9 (aB bU ac (af GG hr rfl mG FG.kp bG .nil aj (a9 (pv 0) (a9 (pv 1) aa)))) aa)))
   (af GD hr1 rfl mD FD.kp bD .nil aj (a9 (pv 0) (a9 ac aa))) fun _ _=>rfl) aa)))))),?_⟩
 obtain ⟨t60,t589,tbig⟩:=tShr
 refine c7 (fun σ' H'=>∃most:Int,0 < most∧most≤TShr∧FeedAt H' f c∧But f c H H'∧σ'= [some (.ref f),some (.int most),none]) ?_ fun nx hnx=> ?_
 rotate_left
 · refine ⟨10,58,rfl,rfl,⟨by decide,by decide,by decide⟩,by show 5≤sizeLine;decide,fun p hp=> ?_⟩
   obtain ⟨npf,npc⟩:=hF.ne hp
   refine ⟨_,rfl,f,c,5,rfl,hF.same (ah hp),by decide,aW (by decide) (by decide),fun r H1 r0 r1 hF1 kp1=> ?_⟩
   have hp1:H1 p=some (.lst [.int 3, .int 3, .int 3, .int 60, .int ((10:Int)^(58:Int).toNat)]):=(kp1 p npf npc).trans ad
   have b1:But f c H H1:=(But.of_same (ah hp)).trans (But.of_keep kp1)
   have r3:r=0∨r=1∨r=2∨r=3∨r=4:=by omega
   rcases r3 with rfl|rfl|rfl|rfl|rfl
   · exact ⟨p,_,0, .int 3,rfl,rfl,SqL.of hp1,rfl,hnx _ _ ⟨3,by decide,by omega,hF1,b1,rfl⟩⟩
   · exact ⟨p,_,1, .int 3,rfl,rfl,SqL.of hp1,rfl,hnx _ _ ⟨3,by decide,by omega,hF1,b1,rfl⟩⟩
   · exact ⟨p,_,2, .int 3,rfl,rfl,SqL.of hp1,rfl,hnx _ _ ⟨3,by decide,by omega,hF1,b1,rfl⟩⟩
   · exact ⟨p,_,3, .int 60,rfl,rfl,SqL.of hp1,rfl,hnx _ _ ⟨60,by decide,by omega,hF1,b1,rfl⟩⟩
   · exact ⟨p,_,4, .int TShr,rfl,rfl,SqL.of hp1,rfl,hnx _ _ ⟨TShr,by omega,by omega,hF1,b1,rfl⟩⟩
 rintro σ' H1 ⟨most,h0,h1,hF1,b1,rfl⟩
 refine ⟨_,rfl,_,rfl,2,most,rfl,rfl, .inl ⟨by decide,by decide⟩,f,c,2*most,rfl,hF1,by omega,by omega,fun r2 H2 s0 s1 hF2 kp2=> ?_⟩
 refine ⟨_,rfl,r2,most,rfl,rfl,?_⟩
 refine ⟨_,rfl,_,rfl,_,rfl,f,c,most,rfl,hF2,by omega,by omega,fun r3 H3 u0 u1 hF3 kp3=> ?_⟩
 refine ⟨1,r3,rfl,rfl,by show 2≤sizeLine;decide,fun p3 hp3=> ?_⟩
 obtain ⟨np3,nc3⟩:=hF3.ne hp3
 refine ⟨_,rfl,f,c,2,rfl,hF3.same (ah hp3),by decide,aW (by decide) (by decide),fun r4 H4 w0 w1 hF4 kp4=> ?_⟩
 have hp4:H4 p3=some (.lst [.int 1, .int (1+r3)]):=(kp4 p3 np3 nc3).trans ad
 have b4:But f c H H4:=b1.trans ((But.of_keep kp2).trans ((But.of_keep kp3).trans ((But.of_same (ah hp3)).trans (But.of_keep kp4))))
 have fin:∀y:Int,0 < y→y≤TShr+1→(fJ [.int (r2 - most), .int y] H4 Q E0):=by
  intro y y0 y1
  have lx:Lt2 200 (r2 - most):=yG (show (r2 - most).natAbs≤(TShr+10).natAbs by omega) tbig
  have ly:Lt2 200 y:=yG (show y.natAbs≤(TShr+10).natAbs by omega) tbig
  have bg:Big (Int.gcd (r2 - most) y:Int):=eX (ly.big (by decide)) (by omega)
  refine ⟨_,y,rfl,y0,bg,fun r' H5 hr' e5=> ?_⟩
  subst e5
  obtain ⟨x',y',ex,ey,g1,qx,qy⟩:=dw (x:=r2 - most) (y:=y) (by omega)
  have s5:=ah (o:= .tup [.int ((r2 - most) / (Int.gcd (r2 - most) y:Int)), .int (y / (Int.gcd (r2 - most) y:Int))]) hr'
  have lx':=lx.div (y:=(Int.gcd (r2 - most) y:Int))
  have ly':=ly.div (y:=(Int.gcd (r2 - most) y:Int))
  rw [qx] at lx'
  rw [qy] at ly'
  rw [qx,qy] at s5 ⊢
  have y0':0 < y':=eC (k:=(Int.gcd (r2 - most) y:Int)) (by omega) (by omega)
  exact k (.ref r') _ (x',y') (hF4.same s5) (b4.trans (But.of_same s5)) (cy ad) ⟨y0',lx',ly'⟩ ⟨y0',g1⟩
 have r2c:r4=0∨r4=1:=by omega
 rcases r2c with rfl|rfl
 · exact ⟨p3,_,0, .int 1,rfl,rfl,SqL.of hp4,rfl,fin 1 (by decide) (by omega)⟩
 · exact ⟨p3,_,1, .int (1+r3),rfl,rfl,SqL.of hp4,rfl,fin (1+r3) (by omega) (by omega)⟩
end
open PySem L2 Mth EqD Tre
section
variable {P:Program} {w:World} {K:PySem.W.Frag} {mg:Str→Option Value} {base:Heap}
def spWq:Sp:=fun vs H Q _=>∃(v:V) (p:Pl),vs= [v]∧PlAt H v p∧Q (.bl (whB p)) H
theorem scWq:az ["_law_thing"] ["_law_thing"] (ag f8):=⟨rfl,rfl,rfl,by decide +kernel,rfl,by decide +kernel,by decide +kernel⟩
theorem xB {f:Addr} {fd:FuncData} (F:Fun K "_law_whole" "_law_whole" f8 f fd) (B:Blt mg):FnOk P w K mg base CX0 1 f fd ["_law_thing"] spWq:=by
 refine F.ok scWq (fun vs H Q E h=> ?_) (fun cdv A outer s H vs Q E hr h=> ?_)
 · obtain ⟨v,p,rfl,_⟩:=h
   rfl
 obtain ⟨v,p,rfl,hv,k⟩:=h
 refine ⟨_,ai (ak (b7 (ao (r:=rIsi K) aN rfl B.isi am (a9 (pv 0) (a9 (aT (v:= .ty "int") rfl B.it PyProof.Rows.boot_int rfl) aa))) (bn (qI (ao (r:=rIsi K) aN rfl B.isi am (a9 (pv 0) (a9 (aT (v:= .ty "bool") rfl B.bo PyProof.Rows.boot_bool rfl) aa))))))),?_⟩
 refine ⟨_,rfl,v, .ty "int",_,isInt p,rfl,bw hv, .inl ⟨rfl,jy K p⟩,_,rfl,?_⟩
 cases e:isInt p with
 |false=>
  refine iteF ?_
  have:whB p=false:=by unfold whB;rw [e];rfl
  rw [this] at k
  exact k
 |true=>
  refine iteT ?_
  refine ⟨_,rfl,v, .ty "bool",_,isBl p,rfl,bw hv, .inl ⟨rfl,rB K p⟩,_,rfl,?_⟩
  have:whB p= !isBl p:=by unfold whB;rw [e];rfl
  rw [this] at k
  exact k
def spSq:Sp:=fun vs H Q _=>∃(v:V) (p:Pl),vs= [v]∧PlAt H v p∧(∀a b,p= .tup [.int a, .int b]→Big a∧Big b)∧∀H',Same H H'→Q (.bl (frB p)) H'
theorem scSq:az ["_law_thing"] ["_law_thing"] (ag iD):=⟨rfl,rfl,rfl,by decide +kernel,rfl,by decide +kernel,by decide +kernel⟩
theorem xD {f fW fL:Addr} {fd dW dL:FuncData} (F:Fun K "_law_is_share" "_law_is_share" iD f fd) (B:Blt mg)
 (gW:FnOk P w K mg base CX0 1 fW dW ["_law_thing"] spWq) (kW:PySem.W.keepIn K (.ref fW)=true) (bW:Binds K dW ["_law_thing"] []) (mW:mg "_law_whole"=some (.ref fW))
 (gL:FnOk P w K mg base CX0 1 fL dL ["_law_top","_law_bottom"] fJ) (kL:PySem.W.keepIn K (.ref fL)=true) (bL:Binds K dL ["_law_top","_law_bottom"] []) (mL:mg "_law_lowest"=some (.ref fL)):FnOk P w K mg base CX0 2 f fd ["_law_thing"] spSq:=by
 refine F.ok scSq (fun vs H Q E h=> ?_) (fun cdv A outer s H vs Q E hr h=> ?_)
 · obtain ⟨v,p,rfl,_⟩:=h
   rfl
 obtain ⟨v,p,rfl,hv,hbig,k⟩:=h
 have hr1:Room 1 _:=hr.mono (by decide)
 have hu50:=yG (yW (show 50≤64 by decide) _) hr.units
 refine ⟨_,ae (aM (PW.pt (bQ (aS (aJ (ao (r:=rIsi K) aN rfl B.isi am (a9 (pv 0) (a9 (aT (v:= .ty "tuple") rfl B.tu PyProof.Rows.boot_tuple rfl) aa))))) (bQ (aE kh (ao aU rfl B.le PySem.boot_len (a9 (pv 0) aa)) ac (ax _)) (bQ (aS (aJ (af gW hr1 rfl mW kW bW .nil aj (a9 (aq ar (pv 0) ac fun _ _=>rfl) aa)))) (bK (aS (aJ (af gW hr1 rfl mW kW bW .nil aj (a9 (aq ar (pv 0) ac fun _ _=>rfl) aa))))))))) (ai (ak bR)) aw)
  (ai (ak (b7 (aY iK (aq ar (pv 0) ac fun _ _=>rfl) ac (ax _)) (bn (aY (qQ hu50) (af gL hr1 rfl mL kL bL .nil aj (a9 (aq ar (pv 0) ac fun _ _=>rfl) (a9 (aq ar (pv 0) ac fun _ _=>rfl) aa))) (pv 0) (ax _)))))),?_⟩
 have no:frB p=false→Q (.bl false) H:=fun e=>by
  have k':=k H (Same.refl H)
  rw [e] at k'
  exact k'
 refine ⟨_,rfl,v, .ty "tuple",_,bV p,rfl,bw hv, .inl ⟨rfl,bz K p⟩,_,rfl,?_⟩
 cases p with
 |tup ts=>
  have hv':=hv
  unfold PlAt at hv'
  obtain ⟨r,vs,rfl,g,hT⟩:=hv'
  have tl:=hT.len
  refine iteF ?_
  refine ⟨_,rfl,r,vs,rfl, .inr (SqT.of g),rfl,_,rfl,?_⟩
  by_cases zn:(vs.length:Int)=2
  · rw [decide_eq_true (congrArg V.int zn)]
    refine iteF ?_
    match ts,tl with
    | [a,b],tl=>
     obtain ⟨r',x,y,e',g',hx,hy⟩:=pl2 hv
     cases e'
     refine ⟨_,rfl,r,_,0,x,rfl,rfl,SqT.of g',rfl,x,a,rfl,hx,_,rfl,?_⟩
     cases ea:whB a with
     |false=>
      refine iteT (iteT (no ?_))
      unfold frB
      split
      · rename_i i j e
        simp only [Pl.tup.injEq,zf,and_true] at e
        rw [e.1] at ea
        cases ea
      · rfl
     |true=>
      obtain ⟨i,rfl⟩:=whB_int.mp ea
      refine iteF ?_
      refine ⟨_,rfl,r,_,1,y,rfl,rfl,SqT.of g',rfl,y,b,rfl,hy,_,rfl,?_⟩
      cases eb:whB b with
      |false=>
       refine iteT (no ?_)
       unfold frB
       split
       · rename_i i' j e
         simp only [Pl.tup.injEq,zf,and_true] at e
         rw [e.2] at eb
         cases eb
       · rfl
      |true=>
       obtain ⟨j,rfl⟩:=whB_int.mp eb
       refine iteF ?_
       have hx':x= .int i:=by unfold PlAt at hx;exact hx
       have hy':y= .int j:=by unfold PlAt at hy;exact hy
       subst hx' hy'
       have kk:∀H',Same H H'→Q (.bl (decide (1≤j)&&decide (Int.gcd i j=1))) H':=k
       refine ⟨_,rfl,r,_,1, .int j,rfl,rfl,SqT.of g',rfl,_,_,rfl,rfl,_,rfl,?_⟩
       by_cases z:(0:Int) < j
       · rw [decide_eq_true (show (1:Int)≤j by omega)] at kk
         rw [decide_eq_true z]
         obtain ⟨b1,b2⟩:=hbig i j rfl
         refine iteT ⟨_,rfl,r,_,0, .int i,rfl,rfl,SqT.of g',rfl,_,rfl,r,_,1, .int j,rfl,rfl,SqT.of g',rfl,i,j,rfl,z,eX b2 (by omega),fun q H1 nq e1=> ?_⟩
         subst e1
         have sq:=ah (o:= .tup [.int (i / (Int.gcd i j:Int)), .int (j / (Int.gcd i j:Int))]) nq
         refine ⟨_,rfl,[.int (i / (Int.gcd i j:Int)), .int (j / (Int.gcd i j:Int))],[.int i, .int j],cy ad,cy (sq _ _ g'), .inl (by simp [Trs.pure,Tr.pure]),(by simp [Trs.depth,Tr.depth]),?_⟩
         have e:eqTs [.int (i / (Int.gcd i j:Int)), .int (j / (Int.gcd i j:Int))] [.int i, .int j]=decide (Int.gcd i j=1):=by
          rw [zc,decide_eq_true_iff,←ky (show (1:Int)≤j by omega)]
          simp [eqTs,eqT]
         rw [e]
         exact kk _ sq
       · rw [decide_eq_false (show¬(1:Int)≤j by omega)] at kk
         rw [decide_eq_false z]
         exact iteF (kk H (Same.refl H))
    | [],tl=>rw [zm] at tl;omega
    | [a],tl=>rw [yJ] at tl;omega
    |a::b::c::l,tl=>simp only [yC] at tl;omega
  · rw [decide_eq_false (fun q=>zn (V.int.inj q))]
    refine iteT (iteT (no ?_))
    unfold frB
    split
    · rename_i i j e
      simp only [Pl.tup.injEq] at e
      subst e
      simp only [yC,zm] at tl
      omega
    · rfl
 |non=>exact iteT (iteT (no rfl))
 |bl b=>exact iteT (iteT (no rfl))
 |int i=>exact iteT (iteT (no rfl))
 |str z=>exact iteT (iteT (no rfl))
 |lst=>exact iteT (iteT (no rfl))
 |dct=>exact iteT (iteT (no rfl))
end
end K05
namespace Tre
open PySem PySem.Spec PyProof.Rows L2
section
variable {X:Cx}
def rEqL (b:Bool):R2:=fun x y H Q=>∃l m vs ws ts us,x= .ref l∧y= .ref m∧H l=some (.lst vs)∧H m=some (.lst ws)∧TrsAt H vs ts∧TrsAt H ws us∧(Trs.pure ts∨Trs.pure us)∧Trs.depth ts≤40∧Q (.bl (eqTs ts us==b)) H
theorem rO {ts us:List Tr} (h:ts.length≠us.length):eqTs ts us=false:=by
 rw [dq,Bool.and_eq_false_iff]
 right
 simp [h]
theorem rh {A:Around} {pins:List (Addr×Obj)} {σ:L2.St} {H:Hp} {s:Shared} {l m:Addr} {vs ws:List V} {ts us:List Tr} (hu:A.units+50 < cLine) (I:Inv X pins σ H s) (h1:H l=some (.lst vs)) (h2:H m=some (.lst ws)) (k1:TrsAt H vs ts) (k2:TrsAt H ws us) (hp:Trs.pure ts∨Trs.pure us) (hd:Trs.depth ts≤40):
 SeqAt.RcAt A s (.ref l) (.ref m) (eqTs ts us)∧SeqAt.RcNeAt A s (.ref l) (.ref m) (!eqTs ts us):=by
 obtain ⟨as,r1,p1,_⟩:=I.list (SqL.of h1)
 obtain ⟨bs,r2,p2,_⟩:=I.list (SqL.of h2)
 have l1:=k1.len
 have l2:=k2.len
 have l3:=r1.length
 have l4:=r2.length
 by_cases z:ts.length=us.length
 · have hsz:as.toArray.size=bs.toArray.size:=by rw [yp,yp];omega
   have he:=fun j (g1:j < as.toArray.size) (g2:j < bs.toArray.size)=>kK (A:=A.in1) I (by show A.units+1+42 < cLine;omega) k1 k2 hp hd r1 r2 j g1 g2
   have a1:=SeqAt.RcAt.lists (A:=A) (e:=eqJ ts us) p1.isList p2.isList hsz (by omega) he
   have a2:=SeqAt.RcNeAt.lists (A:=A) (e:=eqJ ts us) p1.isList p2.isList hsz (by omega) he
   have e:(List.range as.toArray.size).all (eqJ ts us)=eqTs ts us:=by
    rw [dq,←z,Nat.min_self]
    have:as.toArray.size=ts.length:=by rw [yp];omega
    rw [this]
    simp
   rw [e] at a1 a2
   exact ⟨a1,a2⟩
 · have hsz:(as.toArray.size !=bs.toArray.size)=true:=by
    rw [yp,yp]
    simp only [bne_iff_ne,ne_eq]
    omega
   rw [rO z]
   exact ⟨SeqAt.RcAt.lists_lengths p1.isList p2.isList hsz (by omega),SeqAt.RcNeAt.lists_lengths p1.isList p2.isList hsz (by omega)⟩
theorem qR (hu:X.A.units+60 < cLine):OpR X (compareOp .Eq) (rEqL true):=by
 intro pins s σ H x y v u Q I rx ry h
 obtain ⟨l,m,vs,ws,ts,us,rfl,rfl,h1,h2,k1,k2,hp,hd,q⟩:=h
 cases rx
 cases ry
 rw [yf] at q
 exact (rh (A:=X.A) (by omega) I h1 h2 k1 k2 hp hd).1 X.prog X.w X.xe _ ⟨.bl (eqTs ts us),H,I,rfl,q⟩
end
open PySem PySem.Spec PyProof.Rows L2
section
variable {X:Cx}
end
end Tre
namespace K05
open PySem L2 Mth EqD Tre
theorem vH {r:R2} {ta tb:TE} {t u rest:TS} {Z:Ends} {σ:L2.St} {H:Hp} (h:ta σ H fun x H1=>tb σ H1 fun y H2=>r x y H2 fun v H'=>∃k,v= .bl k∧if k=true then t {Z with nx:=rest Z} σ H' else u {Z with nx:=rest Z} σ H'):tSeq (tIfS (pN (tOp r ta tb)) t u) rest Z σ H:=h
structure Okp (n:Nat) (p:Pl):Prop where
 sa:SA p
 dep:pdep p < n
 big:∀a b,p= .tup [.int a, .int b]→Big a∧Big b
open PySem L2 Mth Tre Wd
section
variable {P:Program} {w:World} {K:PySem.W.Frag} {mg:Str→Option Value} {base:Heap}
def pX:Sp:=fun vs H Q _=>∃(f c:Addr),vs= [.ref f]∧FeedAt H f c∧∀(v:V) (H':Hp) (p:Fr),FeedAt H' f c→But f c H H'→TrAt H' v (frT p)→Gf 30 p→oz p.1 p.2→Q v H'
theorem scSml:az ["_law_feed_here","_law_most","_law_top"] ["_law_feed_here"] (ag f9):=⟨rfl,rfl,rfl,by decide +kernel,rfl,by decide +kernel,by decide +kernel⟩
def TSml:Int:=10^6
theorem tSml:(60:Int)≤TSml∧TSml≤T59∧(TSml+10).natAbs < 2^30:=by decide +kernel
theorem wc {f fD fG fL:Addr} {fd fdD fdG fdL:FuncData} (F:Fun K "_law_small" "_law_small" f9 f fd) (FD:Fun K "_law_draw" "_law_draw" cO fD fdD) (bD:Binds K fdD ["_law_feed_here","_law_many"] []) (mD:mg "_law_draw"=some (.ref fD))
 (FG:Fun K "_law_great" "_law_great" di fG fdG) (bG:Binds K fdG ["_law_feed_here","_law_most"] []) (mG:mg "_law_great"=some (.ref fG)) (FL:Fun K "_law_lowest" "_law_lowest" sLow fL fdL) (bL:Binds K fdL ["_law_top","_law_bottom"] []) (mL:mg "_law_lowest"=some (.ref fL)) (B:Blt mg):
 FnOk P w K mg base CX0 3 f fd ["_law_feed_here"] pX:=by
 have GD:FnOk P w K mg base CX0 1 fD fdD ["_law_feed_here","_law_many"] bY:=cw FD B
 have GG:FnOk P w K mg base CX0 2 fG fdG ["_law_feed_here","_law_most"] jc:=kj FG FD bD mD B
 have GL:FnOk P w K mg base CX0 1 fL fdL ["_law_top","_law_bottom"] fJ:=m6 FL B
 refine F.ok scSml (fun vs H Q E h=> ?_) (fun cdv A outer s H vs Q E hr h=> ?_)
 · obtain ⟨f,c,rfl,_⟩:=h
   rfl
 obtain ⟨f,c,rfl,hF,k⟩:=h
 have hr1:Room 1 _:=hr.mono (by decide)
 refine ⟨_,ae (aA (i:=1) scSml.nd rfl (Or.inl rfl) (aq aO (aR (a9 ac (a9 ac (a9 ac (a9 ac (a9 (aB jk ac ac) aa)))))) (af GD hr1 rfl mD FD.kp bD .nil aj (a9 (pv 0) (a9 ac aa))) fun _ _=>rfl))
  (ae (aA (i:=2) scSml.nd rfl (Or.inl rfl) (aB cV (af GG hr rfl mG FG.kp bG .nil aj (a9 (pv 0) (a9 (aB fm ac (pv 1)) aa))) (pv 1)))
  (ai (ak (af GL hr1 rfl mL FL.kp bL .nil aj (a9 (pv 2) (a9 (aq aO (aR (a9 ac (a9 (aB bU ac (af GG hr rfl mG FG.kp bG .nil aj (a9 (pv 0) (a9 (aB cV (pv 1) ac) aa)))) aa)))
   (af GD hr1 rfl mD FD.kp bD .nil aj (a9 (pv 0) (a9 ac aa))) fun _ _=>rfl) aa)))))),?_⟩
 obtain ⟨t60,t589,tbig⟩:=tSml
 refine c7 (fun σ' H'=>∃most:Int,0 < most∧most≤TSml∧FeedAt H' f c∧But f c H H'∧σ'= [some (.ref f),some (.int most),none]) ?_ fun nx hnx=> ?_
 rotate_left
 · refine ⟨10,6,rfl,rfl,⟨by decide,by decide,by decide⟩,by show 5≤sizeLine;decide,fun p hp=> ?_⟩
   obtain ⟨npf,npc⟩:=hF.ne hp
   refine ⟨_,rfl,f,c,5,rfl,hF.same (ah hp),by decide,aW (by decide) (by decide),fun r H1 r0 r1 hF1 kp1=> ?_⟩
   have hp1:H1 p=some (.lst [.int 3, .int 3, .int 3, .int 60, .int ((10:Int)^(6:Int).toNat)]):=(kp1 p npf npc).trans ad
   have b1:But f c H H1:=(But.of_same (ah hp)).trans (But.of_keep kp1)
   have r3:r=0∨r=1∨r=2∨r=3∨r=4:=by omega
   rcases r3 with rfl|rfl|rfl|rfl|rfl
   · exact ⟨p,_,0, .int 3,rfl,rfl,SqL.of hp1,rfl,hnx _ _ ⟨3,by decide,by omega,hF1,b1,rfl⟩⟩
   · exact ⟨p,_,1, .int 3,rfl,rfl,SqL.of hp1,rfl,hnx _ _ ⟨3,by decide,by omega,hF1,b1,rfl⟩⟩
   · exact ⟨p,_,2, .int 3,rfl,rfl,SqL.of hp1,rfl,hnx _ _ ⟨3,by decide,by omega,hF1,b1,rfl⟩⟩
   · exact ⟨p,_,3, .int 60,rfl,rfl,SqL.of hp1,rfl,hnx _ _ ⟨60,by decide,by omega,hF1,b1,rfl⟩⟩
   · exact ⟨p,_,4, .int TSml,rfl,rfl,SqL.of hp1,rfl,hnx _ _ ⟨TSml,by omega,by omega,hF1,b1,rfl⟩⟩
 rintro σ' H1 ⟨most,h0,h1,hF1,b1,rfl⟩
 refine ⟨_,rfl,_,rfl,2,most,rfl,rfl, .inl ⟨by decide,by decide⟩,f,c,2*most,rfl,hF1,by omega,by omega,fun r2 H2 s0 s1 hF2 kp2=> ?_⟩
 refine ⟨_,rfl,r2,most,rfl,rfl,?_⟩
 refine ⟨_,rfl,_,rfl,_,rfl,_,_,rfl,rfl,f,c,most - 1,rfl,hF2,by omega,by omega,fun r3 H3 u0 u1 hF3 kp3=> ?_⟩
 refine ⟨1,r3,rfl,rfl,by show 2≤sizeLine;decide,fun p3 hp3=> ?_⟩
 obtain ⟨np3,nc3⟩:=hF3.ne hp3
 refine ⟨_,rfl,f,c,2,rfl,hF3.same (ah hp3),by decide,aW (by decide) (by decide),fun r4 H4 w0 w1 hF4 kp4=> ?_⟩
 have hp4:H4 p3=some (.lst [.int 1, .int (1+r3)]):=(kp4 p3 np3 nc3).trans ad
 have b4:But f c H H4:=b1.trans ((But.of_keep kp2).trans ((But.of_keep kp3).trans ((But.of_same (ah hp3)).trans (But.of_keep kp4))))
 have fin:∀y:Int,0 < y→y≤TSml+1→(fJ [.int (r2 - most), .int y] H4 Q E0):=by
  intro y y0 y1
  have lx:Lt2 30 (r2 - most):=yG (show (r2 - most).natAbs≤(TSml+10).natAbs by omega) tbig
  have ly:Lt2 30 y:=yG (show y.natAbs≤(TSml+10).natAbs by omega) tbig
  have bg:Big (Int.gcd (r2 - most) y:Int):=eX (ly.big (by decide)) (by omega)
  refine ⟨_,y,rfl,y0,bg,fun r' H5 hr' e5=> ?_⟩
  subst e5
  obtain ⟨x',y',ex,ey,g1,qx,qy⟩:=dw (x:=r2 - most) (y:=y) (by omega)
  have s5:=ah (o:= .tup [.int ((r2 - most) / (Int.gcd (r2 - most) y:Int)), .int (y / (Int.gcd (r2 - most) y:Int))]) hr'
  have lx':=lx.div (y:=(Int.gcd (r2 - most) y:Int))
  have ly':=ly.div (y:=(Int.gcd (r2 - most) y:Int))
  rw [qx] at lx'
  rw [qy] at ly'
  rw [qx,qy] at s5 ⊢
  have y0':0 < y':=eC (k:=(Int.gcd (r2 - most) y:Int)) (by omega) (by omega)
  exact k (.ref r') _ (x',y') (hF4.same s5) (b4.trans (But.of_same s5)) (cy ad) ⟨y0',lx',ly'⟩ ⟨y0',g1⟩
 have r2c:r4=0∨r4=1:=by omega
 rcases r2c with rfl|rfl
 · exact ⟨p3,_,0, .int 1,rfl,rfl,SqL.of hp4,rfl,fin 1 (by decide) (by omega)⟩
 · exact ⟨p3,_,1, .int (1+r3),rfl,rfl,SqL.of hp4,rfl,fin (1+r3) (by omega) (by omega)⟩
end
end K05
namespace Trm
open PySem
def cl (x:Str):List Nat:=x.cps.toList
theorem si (x y:Str):cl (x++y)=cl x++cl y:=by
 show (x.cps++y.cps).toList=_
 simp [cl]
theorem se {x y:Str} (h:cl x=cl y):x=y:=by
 cases x
 cases y
 simp only [Str.mk.injEq]
 exact Array.toList_inj.mp h
theorem cl_len (x:Str):(cl x).length=x.length:=by simp [cl,Str.length]
end Trm
namespace L2
open PySem PySem.Spec PyProof.Rows
section
variable {X:Cx}
end
open PySem PySem.Spec PyProof.Rows
section
variable {prog:Program} {w:World} {A:Around} {R:Result→Shared→Prop} {it S:Addr} {fp wr:List Addr} {n:Nat} {P:Nat→Value→Prop} {St:Nat→Heap→Prop} {kw:List (Str×Value)}
end
section
variable {X:Cx}
end
end L2
namespace Trm
open PySem PySem.Spec PyProof.Rows L2
mutual
def TmAt (H:Hp):V→Tm→Prop
 |v, .nm x=>∃r,v= .ref r∧H r=some (.tup [.str "name", .str x])
 |v, .ap f ts=>∃r q vs,v= .ref r∧H r=some (.tup [.str "call", .str f, .ref q])∧H q=some (.tup vs)∧TmsAt H vs ts
def TmsAt (H:Hp):List V→List Tm→Prop
 |vs,[]=>vs= []
 |vs,t::ts=>∃v r,vs=v::r∧TmAt H v t∧TmsAt H r ts
end
def Tup (H H':Hp):Prop:=∀a xs,H a=some (.tup xs)→H' a=some (.tup xs)
theorem Tup.refl (H:Hp):Tup H H:=fun _ _ e=>e
theorem TmsAt.nil {H:Hp}:TmsAt H [] []:=by unfold TmsAt;rfl
theorem TmsAt.cons {H:Hp} {v:V} {t:Tm} {vs:List V} {ts:List Tm} (h:TmAt H v t) (r:TmsAt H vs ts):TmsAt H (v::vs) (t::ts):=by
 unfold TmsAt
 exact ⟨v,vs,rfl,h,r⟩
theorem TmsAt.inv {H:Hp} {t:Tm} {vs:List V} {ts:List Tm} (h:TmsAt H vs (t::ts)):∃v r,vs=v::r∧TmAt H v t∧TmsAt H r ts:=by
 unfold TmsAt at h
 exact h
theorem TmsAt.len {H:Hp}:∀ {vs:List V} {ts:List Tm},TmsAt H vs ts→vs.length=ts.length
 |vs,[],h=>by
  unfold TmsAt at h
  rw [h]
  rfl
 |vs,t::ts,h=>by
  obtain ⟨v,r,e,_,h2⟩:=h.inv
  rw [e,yC,yC,h2.len]
theorem TmAt.ref {H:Hp} {v:V} {t:Tm} (h:TmAt H v t):∃r,v= .ref r:=by
 cases t with
 |nm x=>unfold TmAt at h;obtain ⟨r,e,_⟩:=h;exact ⟨r,e⟩
 |ap f ts=>unfold TmAt at h;obtain ⟨r,_,_,e,_⟩:=h;exact ⟨r,e⟩
section
variable {X:Cx} {pins:List (Addr×Obj)} {σ:L2.St} {H:Hp} {s:Shared} {A:Around}
def e2 (x y:Str):Nat→Bool
 |0=>true
 |_=>x==y
def e3 (x y:Str) (k:Bool):Nat→Bool
 |0=>true
 |1=>x==y
 |_=>k
def e0 (k:Bool):Nat→Bool
 |0=>false
 |_=>k
end
end Trm
namespace K05
open PySem L2 Trm Tre Wd
def Wd (n:Nat) (x:Str):Prop:=x.length=n∧∀c∈cl x,Ltr c
abbrev abc:Str:=Str.ofString "abcdefghijklmnopqrstuvwxyz"
theorem sI {i:Int} (h0:0≤i) (h1:i < 26):∃c,atI abc.cps.toList i=some c∧Ltr c:=by
 obtain ⟨j,rfl⟩:∃j:Nat,i=(j:Int):=⟨i.toNat,by omega⟩
 have e:abc.cps.toList=(List.range 26).map (97+ ·):=by decide +kernel
 refine ⟨97+j,be ?_,?_⟩
 · rw [e,yL,List.getElem?_range (by omega)]
   rfl
 · unfold Ltr
   omega
theorem oy:abc.length≤sizeLine:=by decide +kernel
theorem lF {c:Nat} (h:Ltr c):Wd 1 ⟨#[c]⟩:=⟨rfl,fun d m=>by
 have m:d∈ [c]:=m
 rw [yv.mp m]
 exact h⟩
theorem ud (x y:Str):(x++y).length=x.length+y.length:=by rw [←cl_len,si,yt,cl_len,cl_len]
theorem iY {m n:Nat} {x y:Str} (a:Wd m x) (b:Wd n y):Wd (m+n) (x++y):=by
 refine ⟨by rw [ud,a.1,b.1],fun c h=> ?_⟩
 rw [si] at h
 rcases yx.mp h with h|h
 · exact a.2 c h
 · exact b.2 c h
theorem eZ {x:Str} {l u:Option Int} {c:Nat} (h:c∈cl (Txt.slice x l u)):c∈cl x:=by
 unfold Txt.slice at h
 split at h
 · exact h
 · have h':c∈List.filterMap (fun i=>x.cps[i]?) (Builtin.Str.strSliceIndices l u 1 x.length):=by simpa [cl] using h
   obtain ⟨i,_,e⟩:=List.mem_filterMap.mp h'
   unfold cl
   exact Array.mem_toList_iff.mpr (Array.mem_of_getElem? e)
theorem pz {n:Nat} {x:Str} {j:Int} (a:Wd n x) (h0:0≤j) (h:j≤n):Wd j.toNat (Txt.slice x none (some j)):=by
 refine ⟨?_,fun c m=>a.2 c (eZ m)⟩
 have:=(PyProof.Rows.fact_slice_ns x j).1 h0 (by have:=a.1;omega)
 omega
theorem sU {n:Nat} {x:Str} {j:Int} (a:Wd n x) (h0:0≤j) (h:j≤n):Wd (n - j.toNat) (Txt.slice x (some j) none):=by
 refine ⟨?_,fun c m=>a.2 c (eZ m)⟩
 have:=(PyProof.Rows.fact_slice_sn x j).1 h0 (by have:=a.1;omega)
 have:=a.1
 omega
theorem uN {n:Nat} {x:Str} (a:Wd n x) (h0:0 < n) (h8:n≤8):Nm x:=⟨by rw [a.1];exact h0,by rw [a.1];exact h8,a.2⟩
theorem sR:∀ {ys:List Str},(∀y∈ys,Wd 1 y)→Wd ys.length (Txt.join (Str.ofString "") ys)
 |ys,h=>by
  have e:Txt.join (Str.ofString "") ys=Str.join (Str.ofString "") ys:=StrLaws.glued_eq_join _ _
  rw [e]
  clear e
  induction ys with
  |nil=>exact ⟨rfl,fun c m=>by cases m⟩
  |cons y ys ih=>
   have h1:=h y yn
   have ih:=ih fun z m=>h z (ym _ m)
   cases ys with
   |nil=>exact h1
   |cons z ys=>
    have e2:Str.join (Str.ofString "") (y::z::ys)=y++Str.ofString ""++Str.join (Str.ofString "") (z::ys):=rfl
    rw [e2,yC (a:=y),Nat.add_comm]
    exact iY (m:=1) (iY (n:=0) h1 ⟨by decide +kernel,fun c m=>by
     have e3:cl (Str.ofString "")= []:=by decide +kernel
     rw [e3] at m
     cases m⟩) ih
theorem jS:∀ {ys:List Str},(∀y∈ys,Wd 1 y)→(ys.map (·.length)).sum=ys.length
 | [],_=>rfl
 |y::ys,h=>by
  simp only [yD,List.sum_cons,yC]
  rw [jS fun z m=>h z (ym _ m),(h y yn).1]
  omega
def Names (H:Hp) (nl:Addr):Prop:=∃ns:List Str,H nl=some (.lst (ns.map V.str))∧ns.length=6∧∀x∈ns,Nm x
theorem Names.at {H:Hp} {nl:Addr} (h:Names H nl) {i:Int} (h0:0≤i) (h6:i < 6):∃xs x,H nl=some (.lst xs)∧atI xs i=some (.str x)∧Nm x:=by
 obtain ⟨ns,e,l,w⟩:=h
 obtain ⟨j,rfl⟩:∃j:Nat,i=(j:Int):=⟨i.toNat,by omega⟩
 have hj:j < ns.length:=by omega
 exact ⟨_,ns[j],e,be (by simp [hj]),w _ (zk hj)⟩
theorem vo:∀x∈([Str.ofString "all",Str.ofString "not",Str.ofString "like",Str.ofString "most",Str.ofString "any",Str.ofString "equal"]:List Str),Nm x:=by
 have h:∀x∈([Str.ofString "all",Str.ofString "not",Str.ofString "like",Str.ofString "most",Str.ofString "any",Str.ofString "equal"]:List Str),0 < x.length∧x.length≤8∧∀c∈cl x,97≤c∧c≤122:=by decide +kernel
 exact fun x m=>⟨(h x m).1,(h x m).2.1,(h x m).2.2⟩
section
variable {P:Program} {w:World} {K:PySem.W.Frag} {mg:Str→Option Value} {base:Heap}
def n8:Sp:=fun vs H Q _=>∃(f c:Addr),vs= [.ref f]∧FeedAt H f c∧∀(r:Addr) (H':Hp),FeedAt H' f c→But f c H H'→H r=none→Names H' r→Q (.ref r) H'
noncomputable def nNm:List Str:= ["_law_feed_here","_law_letters","_law_base","_law_way","_law_at","_law_first","_law_size","_law_found","_law_k","_law_sign"]
theorem scNm:az nNm ["_law_feed_here"] (ag fg):=⟨rfl,rfl,rfl,by decide +kernel,rfl,by decide +kernel,by decide +kernel⟩
theorem qU {f fD:Addr} {fd fdD:FuncData} (F:Fun K "_law_names" "_law_names" fg f fd) (B:Blt mg) (FD:Fun K "_law_draw" "_law_draw" cO fD fdD) (bD:Binds K fdD ["_law_feed_here","_law_many"] []) (mD:mg "_law_draw"=some (.ref fD)):
 FnOk P w K mg base CX0 2 f fd ["_law_feed_here"] n8:=by
 have GD:FnOk P w K mg base CX0 1 fD fdD ["_law_feed_here","_law_many"] bY:=cw FD B
 refine F.ok scNm (fun vs H Q E h=> ?_) (fun cdv A outer s H vs Q E hr h=> ?_)
 · obtain ⟨f,c,rfl,_⟩:=h
   rfl
 obtain ⟨f,c,rfl,hF,k⟩:=h
 refine ⟨_,ae (aA (i:=1) scNm.nd rfl (Or.inr rfl) aG)
  (ae (aA (i:=2) scNm.nd rfl (Or.inr rfl) (nr PySem.F.plainAttrs_str PySem.F.slot_str_join PySem.F.type_str_join u9 aG (a9
   (br (NC:= ["_law_k","_law_feed_here","_law_letters"]) (mp:= [none,some 0,some 1]) rfl (bZ rfl B.ra (a9 ac aa)) (fun _ _ _ _ _=>aQ (i:=0) (show (["_law_k","_law_feed_here","_law_letters"]:List Str).Nodup by decide +kernel) rfl (Or.inl rfl)) (fun _ _ _ _ _=>cu)
    (fun _ _ _ _ _=>aq rD (pv 2) (af GD hr rfl mD FD.kp bD .nil aj (a9 (pv 1) (a9 ac aa))) fun _ _=>rfl)) aa)))
  (ae (aA (i:=3) scNm.nd rfl (Or.inl rfl) (af GD hr rfl mD FD.kp bD .nil aj (a9 (pv 0) (a9 ac aa))))
  (ae (aM (aE cf (pv 3) ac (ax _)) (ai (ak
   (br (NC:= ["_law_k","_law_base"]) (mp:= [none,some 2]) rfl (bZ rfl B.ra (a9 ac aa)) (fun _ _ _ _ _=>aQ (i:=0) (show (["_law_k","_law_base"]:List Str).Nodup by decide +kernel) rfl (Or.inl rfl)) (fun _ _ _ _ _=>cu)
    (fun _ _ _ _ _=>b9 gR (pv 1) bx (bf (aB bU (pv 0) ac)))))) aw)
  (ae (aM (aE cf (pv 3) ac (ax _)) (ai (ak (aR (a9 aG (a9 aG (a9 aG (a9 aG (a9 aG (a9 aG aa))))))))) aw)
  (ae (aA (i:=4) scNm.nd rfl (Or.inl rfl) (af GD hr rfl mD FD.kp bD .nil aj (a9 (pv 0) (a9 ac aa))))
  (ae (aA (i:=5) scNm.nd rfl (Or.inl rfl) (af GD hr rfl mD FD.kp bD .nil aj (a9 (pv 0) (a9 ac aa))))
  (ae (aA (i:=6) scNm.nd rfl (Or.inl rfl) (aq aO (aR (a9 ac (a9 (aB bU (pv 4) ac) aa))) (af GD hr rfl mD FD.kp bD .nil aj (a9 (pv 0) (a9 ac aa))) fun _ _=>rfl))
  (ae (aA (i:=7) scNm.nd rfl (Or.inl rfl) (aR aa))
  (ae (fj PassesOwn.never rfl (bZ rfl B.ra (a9 ac aa)) (aQ (i:=8) scNm.nd rfl (Or.inl rfl))
   (ae (aA (i:=9) scNm.nd rfl (Or.inl rfl) (aq rD (pv 1) (aB cB (aB bU (pv 5) (pv 8)) ac) fun _ _=>rfl))
   (ai (ge (nr PySem.F.plainAttrs_list PySem.F.slot_list_append PySem.F.type_list_append dB (pv 7) (a9 (b9 gR (aB eE (aB eE (b9 gR (pv 2) bx (bf (pv 4))) (pv 9)) (b9 gR (pv 2) (bf (pv 4)) bx)) bx (bf (pv 6))) aa))))))
  (ai (ak (pv 7)))))))))))),?_⟩
 have hL:(20000:Nat)≤sizeLine:=by decide +kernel
 refine ⟨rfl,?_⟩
 refine vv ?_
 refine cm rfl ?_
 refine ⟨7,rfl,by decide,by decide,fun D nD=> ?_⟩
 have nfD:=hF.ne nD
 refine cZ (n:=7) (fun i acc H'=>FeedAt H' f c∧But f c H H'∧H' D=some (.lst acc)∧∃ys:List Str,acc=ys.map V.str∧ys.length=i∧∀y∈ys,Wd 1 y)
  ⟨hF.wr nfD,(But.of_same (Same.refl H)).wr nD,ad,[],rfl,rfl,fun y m=>by cases m⟩ ?_ ?_
 · rintro i acc H' hi ⟨hF',bt,hD,ys,rfl,hy,hw⟩
   refine ⟨_,rfl,_,rfl,f,c,26,rfl,hF',by decide,aW (by decide) (by decide),fun r H2 h0 h1 hF2 kp=> ?_⟩
   obtain ⟨d,ed,ld⟩:=sI h0 h1
   have hD2:H2 D=some (.lst (ys.map V.str)):=(kp D nfD.1 nfD.2).trans hD
   refine ⟨_,r,d,rfl,rfl,oy,ed,CompN.mk hi (by rw [yo];omega) hD2 ⟨hF2.wr nfD,(bt.trans (But.of_keep kp)).wr nD,ad,ys++ [⟨#[d]⟩],by simp,by simp [hy],fun y m=> ?_⟩⟩
   rcases yx.mp m with m|m
   · exact hw y m
   · rw [yv.mp m]
     exact lF ld
 rintro acc H1 ⟨hF1,bt1,hD,ys,rfl,hy,hw⟩
 have hb:=sR hw
 rw [hy] at hb
 have e0:(Str.ofString "").length=0:=by decide +kernel
 refine ⟨_,D,ys,rfl,rfl,SqL.of hD,by rw [jS hw,hy,e0];decide,?_⟩
 generalize Txt.join (Str.ofString "") ys=bs at hb
 refine ⟨_,rfl,f,c,5,rfl,hF1,by decide,aW (by decide) (by decide),fun way H2 w0 w5 hF2 kp2=> ?_⟩
 have bt2:=bt1.trans (But.of_keep kp2)
 have hbs:bs.length≤sizeLine:=by rw [hb.1];omega
 refine ⟨_,rfl,rfl,_,rfl,?_⟩
 refine ite2 (fun _=> ?_) (fun _=> ?_)
 · refine j3 ?_
   refine cm rfl ?_
   refine ⟨6,rfl,by decide,by decide,fun D2 nD2=> ?_⟩
   have nf2:=hF2.ne nD2
   have n0:=bt2.free hF2 nD2
   refine cZ (n:=6) (fun i acc H'=>FeedAt H' f c∧But f c H H'∧H' D2=some (.lst acc)∧∃ys:List Str,acc=ys.map V.str∧ys.length=i∧∀y∈ys,Nm y)
    ⟨hF2.wr nf2,bt2.wr n0,ad,[],rfl,rfl,fun y m=>by cases m⟩ ?_ ?_
   · rintro i acc H' hi ⟨hF',bt,hD,ys,rfl,hy,hw⟩
     refine ⟨_,rfl,_,rfl,_,_,rfl,rfl,_,rfl,bs,rfl,hbs,CompN.mk hi (by rw [yo];omega) hD ⟨hF'.wr nf2,bt.wr n0,ad,ys++ [Txt.slice bs none (some (0+(i:Int)+1))],by rw [zh];rfl,by simp [hy],fun y m=> ?_⟩⟩
     rcases yx.mp m with m|m
     · exact hw y m
     · rw [yv.mp m]
       exact uN (pz hb (by omega) (by omega)) (by omega) (by omega)
   · rintro acc H3 ⟨hF3,bt3,hD3,ys,rfl,hy,hw⟩
     exact k D2 H3 hF3 bt3 n0 ⟨ys,hD3,hy,hw⟩
 refine ⟨_,rfl,rfl,_,rfl,?_⟩
 refine ite2 (fun _=> ?_) (fun _=> ?_)
 · refine ⟨by show 6≤sizeLine;decide,fun p np=> ?_⟩
   exact k p _ (hF2.wr (hF2.ne np)) (bt2.wr (bt2.free hF2 np)) (bt2.free hF2 np) ⟨_,ad,rfl,vo⟩
 refine ⟨_,rfl,f,c,8,rfl,hF2,by decide,aW (by decide) (by decide),fun at_ H3 a0 a8 hF3 kp3=> ?_⟩
 refine ⟨_,rfl,f,c,26,rfl,hF3,by decide,aW (by decide) (by decide),fun fi H4 f0 f26 hF4 kp4=> ?_⟩
 have bt4:=bt2.trans ((But.of_keep kp3).trans (But.of_keep kp4))
 refine ⟨_,rfl,_,_,rfl,rfl,by show 2≤sizeLine;decide,fun p np=> ?_⟩
 have nfp:=hF4.ne np
 have n0p:=bt4.free hF4 np
 refine ⟨_,rfl,f,c,2,rfl,hF4.wr nfp,by decide,aW (by decide) (by decide),fun wh H5 h0 h2 hF5 kp5=> ?_⟩
 have hp5:H5 p=some (.lst [.int 8, .int (at_+1)]):=(kp5 p nfp.1 nfp.2).trans ad
 have bt5:=(bt4.wr n0p (o:= .lst [.int 8, .int (at_+1)])).trans (But.of_keep kp5)
 obtain ⟨sz,e5,s0,s8⟩:∃sz:Int,atI [V.int 8, .int (at_+1)] wh=some (.int sz)∧0 < sz∧sz≤8:=by
  by_cases z:wh=0
  · subst z
    exact ⟨8,rfl,by decide,by decide⟩
  · have z:wh=1:=by omega
    subst z
    exact ⟨at_+1,rfl,by omega,by omega⟩
 refine ⟨p,_,wh,_,rfl,rfl,SqL.of hp5,e5,?_⟩
 refine ⟨by show 0≤sizeLine;decide,fun L nL=> ?_⟩
 have nfL:=hF5.ne nL
 have n0L:=bt5.free hF5 nL
 refine ⟨6,rfl,by decide,by decide,?_⟩
 refine fz (n:=6) (fun i σ H'=>FeedAt H' f c∧But f c H H'∧∃kk sg,∃ys:List Str,σ= [some (.ref f),some (.str abc),some (.str bs),some (.int way),some (.int at_),some (.int fi),some (.int sz),some (.ref L),kk,sg]∧H' L=some (.lst (ys.map V.str))∧ys.length=i∧∀y∈ys,Nm y)
  ⟨hF5.wr nfL,bt5.wr n0L,none,none,[],rfl,ad,rfl,fun y m=>by cases m⟩ ?_ ?_
 · rintro i σ H' hi ⟨hF',bt,kk,sg,ys,rfl,hL',hy,hw⟩
   have q0:(0:Int)≤(fi+(0+(i:Int)))%26:=Int.emod_nonneg _ (by omega)
   have q1:(fi+(0+(i:Int)))%26 < 26:=zv _ (by omega)
   obtain ⟨d,ed,ld⟩:=sI q0 q1
   have w1:=pz (j:=at_) hb a0 (by omega)
   have w2:=sU (j:=at_) hb a0 (by omega)
   have w3:=iY w1 (lF ld)
   have w4:=iY w3 w2
   have hsz:at_.toNat+1+(7 - at_.toNat)=8:=by omega
   rw [hsz] at w4
   refine ⟨_,rfl,_,rfl,_,rfl,_,_,rfl,rfl,_,26,rfl,rfl,(by show (0:Int) < 26;decide),_,_,d,rfl,rfl,oy,ed,?_⟩
   refine ⟨_,rfl, .inl ⟨rfl,_,SqL.of hL'⟩,_,rfl,_,rfl,_,rfl,bs,rfl,hbs,_,rfl,_,_,rfl,rfl,by rw [w1.1,(lF ld).1];omega,_,rfl,_,rfl,_,rfl,bs,rfl,hbs,_,_,rfl,rfl,by rw [w3.1,w2.1];omega,_,rfl,_,rfl,_,rfl,by rw [w4.1];omega,L,_,_,rfl,rfl,hL',by rw [yo];omega,?_⟩
   refine ⟨hF'.wr nfL,bt.wr n0L,_,_,ys++ [Txt.slice (Txt.slice bs none (some at_)++(⟨#[d]⟩:Str)++Txt.slice bs (some at_) none) none (some sz)],rfl,?_,by simp [hy],fun y m=> ?_⟩
   · rw [ad,zh]
     rfl
   · rcases yx.mp m with m|m
     · exact hw y m
     · rw [yv.mp m]
       exact uN (pz w4 (by omega) (by omega)) (by omega) (by omega)
 · rintro σ H' ⟨hF',bt,kk,sg,ys,rfl,hL',hy,hw⟩
   exact ⟨_,rfl,k L H' hF' bt n0L ⟨ys,hL',hy,hw⟩⟩
end
end K05
namespace EqD
open PySem PySem.Spec PyProof.Rows SeqAt L2
section
variable {prog:Program} {w:World} {A:Around} {E:Value→Shared→Prop} {s:Shared}
theorem uA {a b:Addr} {ws:List Value} {Q:Value→Shared→Prop} (ha:IsTup s.heap a ([]:List Value).toArray) (hb:IsTup s.heap b ws.toArray) (k:Q (.ref b) s):wpAny (model prog w) A (binaryOp .Add (.ref a) (.ref b)) Q E s:=by
 obtain ⟨⟨c1,d1,t1,l1⟩,g1,e1,m1,f1⟩:=ha
 obtain ⟨⟨c2,d2,t2,l2⟩,g2,e2,m2,f2⟩:=hb
 dsimp only at e1 f1 e2 f2
 subst e1 f1 e2 f2
 exact concat_meets ⟨_,g1,rfl⟩ ⟨_,g2,rfl⟩ noFill_tuple_add seq_tuple_add PySem.F.slot_tuple_add PySem.F.entry_tuple_add (PySem.F.args_tuple_add_2 _ _) (tuple_addW0 a b _ ws.toArray m1 m2 d1 d2 l1 l2 rfl) ⟨g1,g2,k⟩
theorem fB {t sl:Addr} {xs:Array Value} {vl vu:Value} {lo hi:Option Int} {Q:Value→Shared→Prop} (ht:IsTup s.heap t xs) (hs:s.heap.IsSliceOf sl vl vu .none) (pl:IsPart vl lo) (pu:IsPart vu hi)
 (h1:HT.sIx xs.size 0 lo=0) (h2:HT.sIx xs.size xs.size hi=xs.size) (h:Q (.ref t) s):wpAny (model prog w) A (getItem (.ref t) (.ref sl)) Q E s:=by
 obtain ⟨os,hos,hcs,hds⟩:=id hs
 have hT:s.TypeIs (.ref sl) "slice":=⟨os,hos,hcs⟩
 unfold getItem
 try with_reducible refine wpAny_holding ?_
 first|refine wpAny_bind (wpAny_pure ?_)|skip
 refine wpAny_bind (wpAny_sequenceKey ht.typeIs (by decide) ?_)
 refine wpAny_bind (wpAny_callSpecial?_slot (name:=Str.ofString "__getitem__") ht.typeIs slot_tuple_getitem (wpAny_call_entry slot_tuple_getitem ht.typeIs entry_tuple_getitem ?_ (args_tuple_getitem _ _)))
 show wpAny _ _ (Builtin.Tuple.tupleItemsOf (.ref t) >>=_) _ _ s
 refine wpAny_bind (tupleItemsOf_ ht ?_)
 refine wpAny_bind (wpAny_typeOf hT ?_)
 rw [if_pos (by decide)]
 refine wpAny_bind (HT.sliceApplied_gen hs pl pu ?_)
 have q:(((HT.sIx xs.size 0 lo:Nat):Int)==0&& (1:Int)==1&& (HT.sIx xs.size xs.size hi - HT.sIx xs.size 0 lo)==xs.size)=true:=by
  rw [h1,h2]
  simp
 show wpAny _ _ (if (((HT.sIx xs.size 0 lo:Nat):Int)==0&& (1:Int)==1&& (HT.sIx xs.size xs.size hi - HT.sIx xs.size 0 lo)==xs.size)=true then _ else _) _ _ s
 rw [if_pos q]
 refine wpAny_bind (m:=Builtin.Tuple.tupleIsExact (.ref t)) (wpAny_bind (wpAny_typeOf ht.typeIs (wpAny_pure ?_)))
 rw [if_pos (by decide)]
 first
  |exact wpAny_pure ⟨_,rfl,wpAny_pure h⟩
  |exact wpAny_bind (wpAny_pure ⟨_,rfl,wpAny_pure h⟩)
  |exact wpAny_bind (wpAny_rule (wpAny_pure ⟨_,rfl,wpAny_pure h⟩))
  |(trace_state;exact wpAny_pure (wpAny_pure ⟨_,rfl,wpAny_pure h⟩))
end
section
variable {X:Cx}
def xr:R2:=fun x y H Q=>∃a b xs ys,x= .ref a∧y= .ref b∧H a=some (.tup xs)∧H b=some (.tup ys)∧xs.length+ys.length≤sizeLine∧∀r H',Same H H'→H' r=some (.tup (xs++ys))→Q (.ref r) H'
theorem eP:OpR X (binaryOp .Add) xr:=by
 intro pins s σ H x y v u Q I rx ry h
 obtain ⟨a,b,xs,ys,rfl,rfl,ha,hb,hz,q⟩:=h
 by_cases z:xs= []
 · subst z
   cases rx
   cases ry
   obtain ⟨us,r1,p1,_⟩:=I.tuple (SqT.of ha)
   obtain ⟨ws,r2,p2,_⟩:=I.tuple (SqT.of hb)
   cases r1
   exact uA p1 p2 ⟨.ref b,H,I,rfl,q b H (Same.refl H) hb⟩
 · refine tT pins s σ H _ _ v u Q I rx ry ⟨a,b,xs,ys,rfl,rfl,SqT.of ha,SqT.of hb,z,hz,fun e=> ?_,fun e p np=> ?_⟩
   · subst e
     exact q a H (Same.refl H) (by rw [List.append_nil];exact ha)
   · exact q p _ (cj np) ad
def rSlA:V→Option Int→Option Int→Hp→VK→Prop:=fun x lo hi H Q=>∃a xs,x= .ref a∧H a=some (.tup xs)∧∀r H',Same H H'→H' r=some (.tup (cutV xs lo hi))→Q (.ref r) H'
theorem sl_A:SlR X rSlA:=by
 intro pins s σ H x v vl vu lo hi sl Q I rx hs pl pu h
 obtain ⟨a,xs,rfl,hx,q⟩:=h
 by_cases z:HT.sIx xs.length 0 lo=0∧HT.sIx xs.length xs.length hi=xs.length
 · cases rx
   obtain ⟨its,r,ht,hz⟩:=I.tuple (SqT.of hx)
   have hlen:its.toArray.size=xs.length:=by rw [yp];exact r.length.symm
   refine ⟨"tuple",_,slot_tuple_getitem.lookup,ht.typeIs,?_⟩
   refine fB ht hs pl pu (by rw [hlen];exact z.1) (by rw [hlen];exact z.2) ⟨.ref a,H,I,rfl,q a H (Same.refl H) ?_⟩
   have e:cutV xs lo hi=xs:=by
    unfold cutV
    rw [z.1,z.2]
    simp
   rw [e]
   exact hx
 · exact qd pins s σ H _ v vl vu lo hi sl Q I rx hs pl pu ⟨a,xs,rfl,SqT.of hx,z,fun p np=>q p _ (cj np) ad⟩
def rEqW:R2:=fun x y H Q=>∃j,y= .int j∧((∃i,x= .int i)∨∃b,x= .bl b)∧∀c,Q (.bl c) H
theorem vY:OpR X (compareOp .Eq) rEqW:=by
 intro pins s σ H x y v u Q I rx ry h
 obtain ⟨j,rfl,h,q⟩:=h
 rcases h with ⟨i,rfl⟩|⟨b,rfl⟩
 · exact cf pins s σ H _ _ v u Q I rx ry ⟨rfl,q _⟩
 · cases (show v=Value.bool b from rx)
   obtain ⟨t,rfl⟩:=ry
   exact RcAt.bool_int b j t X.prog X.w _ _ ⟨.bl _,H,I,rfl,q _⟩
def xl:R2:=fun x y H Q=>∃i,x= .int i∧((∃j,y= .int j∧Q (.int (i - j)) H)∨∃b,y= .bl b∧Q (.int (i - if b=true then (1:Int) else 0)) H)
theorem tP:OpR X (binaryOp .Sub) xl:=by
 intro pins s σ H x y v u Q I rx ry h
 obtain ⟨i,rfl,h⟩:=h
 rcases h with ⟨j,rfl,q⟩|⟨b,rfl,q⟩
 · exact cV pins s σ H _ _ v u Q I rx ry ⟨i,j,rfl,rfl,q⟩
 · cases (show u=Value.bool b from ry)
   obtain ⟨t,rfl⟩:=rx
   exact PySem.IntBool.sub_int_bool ⟨.int _,H,I.tok _,⟨_,rfl⟩,q⟩
theorem pj:ci X (.type "str") (fun xs H Q=>(∃i,xs= [.int i]∧i.natAbs.log2 < 1920∧Q (.str (toString i)) H)∨∃b:Bool,xs= [.bl b]∧Q (.str (if b then "True" else "False")) H):=by
 intro pins s σ H xs us Q I r h
 rcases h with h|⟨b,rfl,q⟩
 · exact jF pins s σ H xs us Q I r h
 · obtain ⟨u,rfl,ru⟩:=dg r
   cases (show u=Value.bool b from ru)
   exact PySem.P.str_of_bool ⟨.str _,H,I.tok _,⟨_,rfl⟩,q⟩
theorem iw:∀(l:List Nat),(∀c∈l,c < 128)→(Txt.upper ⟨l.toArray⟩).length=l.length∧∀c∈(Txt.upper ⟨l.toArray⟩).cps.toList,c < 128
 | [],_=>by
  have e:Txt.upper ⟨([]:List Nat).toArray⟩=⟨#[]⟩:=by decide +kernel
  rw [e]
  exact ⟨rfl,fun c m=>by cases m⟩
 |c::l,h=>by
  have e:(⟨(c::l).toArray⟩:Str)=⟨#[c]⟩++⟨l.toArray⟩:=by
   apply PySem.Str.ext'
   rw [PySem.Str.cps_append]
   simp
  have hc:=h c yn
  obtain ⟨i1,i2⟩:=iw l fun d m=>h d (ym _ m)
  rw [e,PySem.W.KOpn.upper_app,PySem.W.KOpn.upper_one hc]
  refine ⟨?_,fun d m=> ?_⟩
  · rw [PySem.Str.length_append,i1,yC]
    show 1+_=_
    omega
  · rw [PySem.Str.cps_append,Array.toList_append] at m
    rcases yx.mp m with m|m
    · have m':d=if 97≤c∧c≤122 then c - 32 else c:=by simpa using m
      split at m'<;>omega
    · exact i2 d m
theorem jN {x:Str} (h:∀c∈x.cps.toList,c < 128):(Txt.upper x).length=x.length∧∀c∈(Txt.upper x).cps.toList,c < 128:=by
 have:=iw x.cps.toList h
 exact ⟨this.1.trans (by simp [Str.length]),this.2⟩
def vM:V→List V→Hp→VK→Prop:=fun x vs H Q=>∃z,x= .str z∧vs= []∧(∀c∈z.cps.toList,c < 128)∧z.length≤1000∧Q (.str (Txt.upper z)) H
theorem r6:MtM X "str.upper" vM:=by
 intro pins s σ H x vs v us Q I rx rv h
 obtain ⟨z,rfl,rfl,ha,hl,q⟩:=h
 obtain ⟨t,rfl⟩:=rx
 cases rv.zero
 refine SC.upper ?_ ⟨.str _,H,I.tok _,⟨_,rfl⟩,q⟩
 rw [(jN ha).1]
 exact decide_eq_false (by have:(1000:Nat)≤sizeLine:=by decide +kernel
                           omega)
end
open PySem L2
noncomputable def cQ (f:Expr→Option Pl):List Expr→Option (List Pl)
 | []=>some []
 |e::es=>match f e,cQ f es with
  |some t,some ts=>some (t::ts)
  |_,_=>none
noncomputable def litP:Nat→Expr→Option Pl
 |0,_=>none
 |n+1,e=>match e with
  | .Constant (.str x) _ _=>some (.str x)
  | .Constant (.int i) _ _=>some (.int i)
  | .Constant (.bool b) _ _=>some (.bl b)
  | .Constant .none _ _=>some .non
  | .UnaryOp .USub (.Constant (.int i) _ _) _=>some (.int (-i))
  | .Tuple es _ _=>if es.length≤100 then (cQ (litP n) es).map .tup else none
  | .List es _=>if es.length≤100 then (cQ (litP n) es).map (fun _=> .lst) else none
  | .Dict [some (.Constant (.str _) _ _)] [.Constant (.int _) _ _] _=>some .dct
  | .Dict [] [] _=>some .dct
  |_=>none
noncomputable def iM (n:Nat):Expr→Option (List Pl)
 | .List es _=>if es.length≤100 then cQ (litP n) es else none
 |_=>none
def x9 (t:Pl):TE:=fun _ H Q=>∀v H',Same H H'→PlAt H' v t→Q v H'
def pO (ts:List Pl):TA:=fun _ H Q=>∀vs H',Same H H'→PlsAt H' vs ts→Q vs H'
def vA (ts:List Pl):TE:=fun _ H Q=>∀r vs H',Same H H'→H r=none→H' r=some (.lst vs)→PlsAt H' vs ts→Q (.ref r) H'
section
variable {X:Cx}
theorem dG:∀ {n:Nat} {es:List Expr} {ts:List Pl},cQ (litP n) es=some ts→ts.length=es.length
 |n,[],ts,h=>by
  rw [cQ] at h
  cases h
  rfl
 |n,e::es,ts,h=>by
  rw [cQ] at h
  split at h
  · rename_i t us h1 h2
    cases h
    rw [yC,yC,dG h2]
  · cases h
theorem qK:∀n,∀e t,litP n e=some t→PE X e (x9 t)∧∀es,starEach (e::es) X.env=(false,eval e X.env)::starEach es X.env:=by
 intro n
 induction n with
 |zero=>
  intro e t h
  rw [litP] at h
  cases h
 |succ n ih=>
  have many:∀es ts,cQ (litP n) es=some ts→PA X es (pO ts):=by
   intro es
   induction es with
   |nil=>
    intro ts h
    rw [cQ] at h
    cases h
    exact PA.imp aa fun σ H Q q=>q [] H (Same.refl H) .nil
   |cons e es ih2=>
    intro ts h
    rw [cQ] at h
    split at h
    · rename_i t us h1 h2
      cases h
      obtain ⟨a1,a2⟩:=ih e t h1
      refine PA.imp (a9 a1 (ih2 us h2) (a2 es)) fun σ H Q q=> ?_
      intro v H1 s1 hv ws H2 s2 hw
      exact q (v::ws) H2 (s1.trans s2) (.cons (hv.mono (Ke.of_same s2)) hw)
    · cases h
  have big:(100:Nat)≤sizeLine:=by decide +kernel
  intro e t h
  unfold litP at h
  split at h
  · cases h
    exact ⟨PE.imp aG fun σ H Q q=>q _ H (Same.refl H) (by unfold PlAt;rfl),fun es=>rfl⟩
  · cases h
    exact ⟨PE.imp ac fun σ H Q q=>q _ H (Same.refl H) (by unfold PlAt;rfl),fun es=>rfl⟩
  · cases h
    exact ⟨PE.imp bR fun σ H Q q=>q _ H (Same.refl H) (by unfold PlAt;rfl),fun es=>rfl⟩
  · cases h
    exact ⟨PE.imp vV fun σ H Q q=>q _ H (Same.refl H) (by unfold PlAt;rfl),fun es=>rfl⟩
  · cases h
    exact ⟨PE.imp (nn iZ ac) fun σ H Q q=>⟨_,rfl,q _ H (Same.refl H) (by unfold PlAt;rfl)⟩,fun es=>rfl⟩
  · rename_i es k pos
    split at h
    · rename_i hl
      obtain ⟨ts,h1,h2⟩:=yR.mp h
      cases h2
      refine ⟨PE.imp (aX (many es ts h1)) fun σ H Q q=> ?_,fun es=>rfl⟩
      intro vs H1 s1 hv
      have l1:=hv.len
      have l2:=dG h1
      refine ⟨by omega,fun p np=> ?_⟩
      have s2:=cj (o:= .tup vs) np
      exact q (.ref p) _ (s1.trans s2) (by unfold PlAt;exact ⟨p,vs,rfl,ad,hv.mono (Ke.of_same s2)⟩)
    · cases h
  · rename_i es pos
    split at h
    · rename_i hl
      obtain ⟨ts,h1,h2⟩:=yR.mp h
      cases h2
      refine ⟨PE.imp (aR (many es ts h1)) fun σ H Q q=> ?_,fun es=>rfl⟩
      intro vs H1 s1 hv
      have l1:=hv.len
      have l2:=dG h1
      refine ⟨by omega,fun p np=> ?_⟩
      have s2:=cj (o:= .lst vs) np
      exact q (.ref p) _ (s1.trans s2) (by unfold PlAt;exact ⟨p,vs,rfl,ad⟩)
    · cases h
  · rename_i k _ _ i _ _ _
    cases h
    refine ⟨PE.imp (tO (qD aG ac tI) rfl rfl (by simp) (by simp)) fun σ H Q q=> ?_,fun es=>rfl⟩
    intro p np
    refine ⟨ad,[(.inr k, .int i)],rfl,by simp,q (.ref p) _ ?_ (by unfold PlAt;exact ⟨p,_,rfl,ad⟩)⟩
    intro b o e
    have ne:b≠p:=fun z=>by rw [z,np] at e;cases e
    rw [aF ne,aF ne]
    exact e
  · cases h
    refine ⟨PE.imp qM fun σ H Q q=> ?_,fun es=>rfl⟩
    intro p np
    exact q (.ref p) _ (cj (o:= .dK []) np) (by unfold PlAt;exact ⟨p,_,rfl,ad⟩)
  · cases h
theorem kc (n:Nat):∀ {es:List Expr} {ts:List Pl},cQ (litP n) es=some ts→PA X es (pO ts)
 | [],ts,h=>by
  rw [cQ] at h
  cases h
  exact PA.imp aa fun σ H Q q=>q [] H (Same.refl H) .nil
 |e::es,ts,h=>by
  rw [cQ] at h
  split at h
  · rename_i t us h1 h2
    cases h
    obtain ⟨a1,a2⟩:=qK (X:=X) n e t h1
    refine PA.imp (a9 a1 (kc n h2) (a2 es)) fun σ H Q q=> ?_
    intro v H1 s1 hv ws H2 s2 hw
    exact q (v::ws) H2 (s1.trans s2) (.cons (hv.mono (Ke.of_same s2)) hw)
  · cases h
theorem k9 (n:Nat) {e:Expr} {ts:List Pl} (h:iM n e=some ts):PE X e (vA ts):=by
 unfold iM at h
 split at h
 · rename_i es pos
   split at h
   · rename_i hl
     refine PE.imp (aR (kc n h)) fun σ H Q q=> ?_
     intro vs H1 s1 hv
     have l1:=hv.len
     have l2:=dG h
     refine ⟨by have:(100:Nat)≤sizeLine:=by decide +kernel
                omega,fun p np=> ?_⟩
     have s2:=cj (o:= .lst vs) np
     exact q p vs _ (s1.trans s2) (s1.none np) ad (hv.mono (Ke.of_same s2))
   · cases h
 · cases h
end
end EqD
namespace L2
open PySem PySem.Spec PyProof.Rows
section
variable {prog:Program} {w:World} {A:Around} {E:Value→Shared→Prop} {s:Shared}
end
section
variable {X:Cx}
end
end L2
namespace Dec
open PySem PySem.NumText
def cl (x:Str):List Nat:=x.cps.toList
theorem se {x y:Str} (h:cl x=cl y):x=y:=by
 cases x
 cases y
 simp only [Str.mk.injEq]
 exact Array.toList_inj.mp h
theorem cl_len (x:Str):(cl x).length=x.length:=by simp [cl,Str.length]
def ds (n:Nat):List Nat:=(Nat.toDigits 10 n).map Char.toNat
theorem mE:∀d:Nat,d < 10→(Nat.digitChar d).toNat=48+d:=by decide
theorem oh {n:Nat} (h:n < 10):ds n= [48+n]:=by
 unfold ds
 rw [Nat.toDigits_of_lt_base h]
 show [(Nat.digitChar n).toNat]=_
 rw [mE n h]
theorem og {n:Nat} (h:10≤n):ds n=ds (n / 10)++ [48+n%10]:=by
 have hm:n%10 < 10:=Nat.mod_lt n (by decide)
 have t:Nat.toDigits 10 (n / 10)++Nat.toDigits 10 (n%10)=Nat.toDigits 10 (10*(n / 10)+n%10):=Nat.toDigits_append_toDigits (by decide) (by omega) hm
 rw [Nat.div_add_mod] at t
 have e:=oh hm
 unfold ds at e ⊢
 rw [←t,zh,e]
theorem ds_dig:∀n:Nat,AllDigits (ds n):=by
 intro n
 induction n using Nat.strongRecOn with
 |_ n ih=>
  by_cases h:n < 10
  · rw [oh h]
    intro c m
    rw [yv.mp m]
    omega
  · rw [og (by omega)]
    intro c m
    rcases yx.mp m with m|m
    · exact ih (n / 10) (by omega) c m
    · rw [yv.mp m]
      omega
theorem ds_len:∀(k:Nat) {n:Nat},n < 10^(k+1)→(ds n).length≤k+1
 |0,n,h=>by rw [oh (by simpa using h)];simp
 |k+1,n,h=>by
  by_cases q:n < 10
  · rw [oh q]
    simp
  · rw [og (by omega),yt]
    have:=ds_len k (n:=n / 10) (by rw [Nat.pow_succ] at h;omega)
    simp only [yC,zm]
    omega
open PySem PySem.NumText L2 Mth
def sl:Str:=Str.ofString "/"
open PySem PySem.NumText L2 Mth
def sg (x:Int):List Nat:=if x < 0 then [45] else []
noncomputable def low (x y:Int):List Nat:=ds x.natAbs++(if y=1 then [] else 47::ds y.natAbs)
noncomputable def txt (x y:Int):List Nat:=sg x++low x y
open PySem PySem.NumText L2 Mth
theorem sd (m:Nat):cl (Str.ofString (toString ((m:Nat):Int)))=ds m:=PySem.W.KIN.signs_num m
theorem log_lt {m:Nat} (h:m < 10^200):((m:Nat):Int).natAbs.log2 < 1920:=by
 rw [Int.natAbs_natCast]
 by_cases z:m=0
 · subst z
   decide
 · rw [Nat.log2_lt z]
   exact yB h (by decide +kernel)
theorem sX {x y:Int} (hx:x.natAbs < 10^200) (hy:y.natAbs < 10^200):(txt x y).length≤402:=by
 unfold txt sg low
 have h1:=ds_len 199 hx
 have h2:=ds_len 199 hy
 simp only [yt]
 split<;>split<;>simp<;>omega
theorem cl_int (x:Int):cl (Str.ofString (toString x))=sg x++ds x.natAbs:=by
 cases x with
 |ofNat m=>
  unfold sg
  rw [if_neg (by simp)]
  exact sd m
 |negSucc m=>
  unfold sg
  rw [if_pos (Int.negSucc_lt_zero m)]
  have h:=sd (m+1)
  unfold cl at h ⊢
  rw [PyProof.Rows.signs_ofString] at h ⊢
  have e:(toString (Int.negSucc m))= "-"++toString (((m+1:Nat):Int)):=rfl
  rw [e,String.toList_append,zh,h]
  rfl
end Dec
namespace Tw
open PySem L2 Tre Wd Mth Dec Su
mutual
noncomputable def tmC:Tr→List Nat
 | .tup (_:: .str x::r)=>match r with
  | []=>cl x
  |t::_=>40::cl x++tmK t++ [41]
 |_=> []
noncomputable def tmK:Tr→List Nat
 | .tup ts=>tmsC ts
 |_=> []
noncomputable def tmsC:List Tr→List Nat
 | []=> []
 |t::ts=>32::tmC t++tmsC ts
end
noncomputable def spC (cs:List (List Nat)):List Nat:=(cs.map (32:: ·)).flatten
theorem tf (c:List Nat):spC [c]=32::c:=by simp [spC]
theorem fZ {B:Nat}:∀ {cs:List (List Nat)},(∀c∈cs,c.length≤B)→(spC cs).length≤cs.length*(B+1)
 | [],_=>yO _
 |c::cs,h=>by
  have h1:=h c yn
  have h2:=fZ fun d m=>h d (ym c m)
  have e:spC (c::cs)=(32::c)++spC cs:=rfl
  rw [e,yt,yC,yC,Nat.succ_mul]
  omega
noncomputable def frC (p:Fr):List Nat:=txt p.1 p.2
theorem pI:(2:Nat)^200≤10^200:=Nat.pow_le_pow_left (by decide) _
theorem Gfl {p:Fr} (h:Gf 200 p):p.1.natAbs < 10^200∧p.2.natAbs < 10^200:=⟨yB h.top pI,yB h.bot pI⟩
theorem o8 {p:Fr} (h:Gf 200 p):(frC p).length≤402:=sX (Gfl h).1 (Gfl h).2
structure Tb (t:Tr):Prop where
 ty:Ty .tm t
 dep:t.depth≤7
 len:(tmC t).length≤1000
structure Pb (p:Pq):Prop where
 tb:Tb p.1
 gf:Gf 200 p.2
noncomputable def prC (p:Pq):List (List Nat):= [frC p.2,tmC p.1]
def hd (k:Str):List Nat:=40::cl k
inductive Wx:Nat→Tr→List Nat→Prop
 |fl (n:Nat) (x:Str):x.length≤8→Wx n (.tup [s_ "flag", .str x]) (cl x)
 |mo (n:Nat) (ps:List Pq) (f:Fr):ps.length≤3→(∀p∈ps,Pb p)→Gf 200 f→Wx n (.tup [s_ "most", .tup (ps.map prT),frT f]) (hd "most"++spC (ps.flatMap prC++ [frC f])++ [41])
 |li (n:Nat) (t u:Tr):Tb t→Tb u→Wx n (.tup [s_ "like",t,u]) (hd "like"++spC [tmC t,tmC u]++ [41])
 |no (n:Nat) (t:Tr) (c:List Nat):Wx n t c→Wx (n+1) (.tup [s_ "not",t]) (hd "not"++spC [c]++ [41])
 |bo (n:Nat) (l:List (Tr×List Nat)):l.length≤3→(∀p∈l,Wx n p.1 p.2)→Wx (n+1) (.tup [s_ "both", .tup (l.map (·.1))]) (hd "all"++spC (l.map (·.2))++ [41])
 |ei (n:Nat) (l:List (Tr×List Nat)):l.length≤3→(∀p∈l,Wx n p.1 p.2)→Wx (n+1) (.tup [s_ "either", .tup (l.map (·.1))]) (hd "any"++spC (l.map (·.2))++ [41])
theorem wK:(hd "most").length=5∧(hd "like").length=5∧(hd "not").length=4∧(hd "all").length=4∧(hd "any").length=4:=by decide +kernel
theorem tG {ps:List Pq} (h:∀p∈ps,Pb p):∀c∈ps.flatMap prC,c.length≤1000:=fun c m=>by
 obtain ⟨p,mp,mc⟩:=List.mem_flatMap.mp m
 have hp:=h p mp
 rcases yk.mp mc with rfl|mc
 · have:=o8 hp.gf
   omega
 · rw [yv.mp mc]
   exact hp.tb.len
theorem qB (ps:List Pq):(ps.flatMap prC).length=2*ps.length:=by
 induction ps with
 |nil=>rfl
 |cons p ps ih=>
  rw [List.flatMap_cons,yt,ih,yC]
  show 2+_=_
  omega
theorem Wx.len {n:Nat} {t:Tr} {c:List Nat} (h:Wx n t c):c.length≤8000*4^n:=by
 have hh:=wK
 induction h with
 |fl n x h=>
  rw [cl_len]
  have:=Nat.pow_pos (n:=n) (show 0 < 4 by decide)
  omega
 |mo n ps f h1 h2 h3=>
  have h4:=fZ (B:=1000) (cs:=ps.flatMap prC++ [frC f]) (fun c m=>by
   rcases yx.mp m with m|m
   · exact tG h2 c m
   · rw [yv.mp m]
     have:=o8 h3
     omega)
  rw [yt,qB,yJ] at h4
  have h5:(2*ps.length+1)*(1000+1)≤7*1001:=Nat.mul_le_mul_right _ (by omega)
  have:=Nat.pow_pos (n:=n) (show 0 < 4 by decide)
  simp only [yt,yJ,hh.1]
  omega
 |li n t u h1 h2=>
  have h3:=h1.len
  have h4:=h2.len
  have:=Nat.pow_pos (n:=n) (show 0 < 4 by decide)
  simp only [yt,yJ,hh.2.1,spC,yD,List.map_nil,List.flatten_cons,List.flatten_nil,yC,zm]
  omega
 |no n t c _ ih=>
  have:=Nat.pow_pos (n:=n) (show 0 < 4 by decide)
  rw [tf,Nat.pow_succ]
  simp only [yt,yJ,hh.2.2.1,yC,zm]
  omega
 |bo n l h1 h2 ih=>
  have h4:=fZ (B:=8000*4^n) (cs:=l.map (·.2)) (fun c m=>by
   obtain ⟨p,mp,rfl⟩:=yV.mp m
   exact ih p mp)
  rw [yo] at h4
  have h5:l.length*(8000*4^n+1)≤3*(8000*4^n+1):=Nat.mul_le_mul_right _ h1
  have:=Nat.pow_pos (n:=n) (show 0 < 4 by decide)
  rw [Nat.pow_succ]
  simp only [yt,yJ,hh.2.2.2.1]
  omega
 |ei n l h1 h2 ih=>
  have h4:=fZ (B:=8000*4^n) (cs:=l.map (·.2)) (fun c m=>by
   obtain ⟨p,mp,rfl⟩:=yV.mp m
   exact ih p mp)
  rw [yo] at h4
  have h5:l.length*(8000*4^n+1)≤3*(8000*4^n+1):=Nat.mul_le_mul_right _ h1
  have:=Nat.pow_pos (n:=n) (show 0 < 4 by decide)
  rw [Nat.pow_succ]
  simp only [yt,yJ,hh.2.2.2.2]
  omega
end Tw
namespace K05
open PySem PySem.NumText L2 Mth EqD
inductive Gp (l:Nat):Nat→Pl→Prop
 |non (d:Nat):Gp l d .non
 |bl (d:Nat) (b:Bool):Gp l d (.bl b)
 |int (d:Nat) (i:Int):i.natAbs < 10^200→Gp l d (.int i)
 |str (d:Nat) (x:Str):x.length≤300→Asc x→Gp l d (.str x)
 |lst (d:Nat):Gp l d .lst
 |dct (d:Nat):Gp l d .dct
 |tup (d:Nat) (ts:List Pl):ts.length≤l→(4 < ts.length→∃u∈ts,toB 2 u=false)→(∀t∈ts,Gp l d t)→Gp l (d+1) (.tup ts)
theorem Gp.mono {l l' d:Nat} {p:Pl} (h:Gp l d p):∀ {e:Nat},l≤l'→d≤e→Gp l' e p:=by
 induction h with
 |non=>exact fun _ _=> .non _
 |bl=>exact fun _ _=> .bl _ _
 |int d i h=>exact fun _ _=> .int _ _ h
 |str d x h1 h2=>exact fun _ _=> .str _ _ h1 h2
 |lst=>exact fun _ _=> .lst _
 |dct=>exact fun _ _=> .dct _
 |tup d ts h1 hn h2 ih=>
  intro e hl hd
  obtain ⟨e',rfl⟩:∃e',e=e'+1:=⟨e - 1,by omega⟩
  exact .tup e' ts (by omega) hn fun t m=>ih t m hl (by omega)
theorem Gp.items {l d:Nat} {ts:List Pl} (h:Gp l d (.tup ts)):∃d',d=d'+1∧ts.length≤l∧∀t∈ts,Gp l d' t:=by
 cases h with
 |tup d' _ h1 _ h2=>exact ⟨d',rfl,h1,h2⟩
theorem qg:∀ {ts:List Pl},(∀t∈ts,SA t)→SAs ts
 | [],_=>by unfold SAs;trivial
 |t::ts,h=>by
  unfold SAs
  exact ⟨h t yn,qg fun u m=>h u (ym _ m)⟩
theorem jX:∀ {ts:List Pl} {d:Nat},(∀t∈ts,pdep t≤d)→psdep ts≤d
 | [],d,_=>by unfold psdep;omega
 |t::ts,d,h=>by
  unfold psdep
  have h1:=h t yn
  have h2:=jX fun u m=>h u (ym _ m)
  omega
theorem Gp.sa {l d:Nat} {p:Pl} (h:Gp l d p) (hl:l≤1000):SA p:=by
 induction h with
 |non=>unfold SA;trivial
 |bl=>unfold SA;trivial
 |int d i h=>unfold SA;trivial
 |str d x h1 h2=>unfold SA;exact ⟨by omega,h2⟩
 |lst=>unfold SA;trivial
 |dct=>unfold SA;trivial
 |tup d ts h1 hn h2 ih=>unfold SA;exact ⟨by omega,qg ih⟩
theorem Gp.dep {l d:Nat} {p:Pl} (h:Gp l d p):pdep p≤d:=by
 induction h with
 |tup d ts h1 hn h2 ih=>
  unfold pdep
  have:=jX ih
  omega
 |_=>unfold pdep;omega
theorem ss {i:Int} (h:i.natAbs < 10^200):Big i:=Nat.lt_trans h (by decide +kernel)
theorem Gp.okp {l d n:Nat} {p:Pl} (h:Gp l d p) (hl:l≤1000) (hd:d < n):Okp n p:=by
 refine ⟨h.sa hl,yG h.dep hd,fun a b e=> ?_⟩
 subst e
 obtain ⟨d',_,_,h2⟩:=h.items
 have ha:=h2 (.int a) (by simp)
 have hb:=h2 (.int b) (by simp)
 cases ha with
 |int _ _ ha=>
  cases hb with
  |int _ _ hb=>exact ⟨ss ha,ss hb⟩
theorem But.ke {f c:Addr} {H H':Hp} (b:But f c H H') (x:FeedAt H f c) (y:FeedAt H' f c):Ke H H':=by
 obtain ⟨cells,u,n,h1,h2,_⟩:=x
 obtain ⟨cells',u',n',h1',h2',_⟩:=y
 refine ⟨fun a xs e=> ?_,fun a xs e=> ?_,fun a xs e=> ?_⟩
 · refine b a _ (fun z=> ?_) (fun z=> ?_) e
   · rw [z,h1] at e;cases e
   · rw [z,h2] at e;cases e
 · by_cases z:a=f
   · subst z;exact ⟨_,h1'⟩
   · by_cases z':a=c
     · subst z';exact ⟨_,h2'⟩
     · exact ⟨xs,b a _ z z' e⟩
 · refine ⟨xs,b a _ (fun z=> ?_) (fun z=> ?_) e⟩
   · rw [z,h1] at e;cases e
   · rw [z,h2] at e;cases e
theorem uE {x y:Str} (a:Asc x) (b:Asc y):Asc (x++y):=fun c m=>by
 rw [PySem.Str.cps_append,Array.toList_append] at m
 rcases yx.mp m with m|m
 · exact a c m
 · exact b c m
theorem uD {i:Int} {z:Str} (e:z=Str.ofString (toString i)) (h:i.natAbs < 10^200):z.length≤300∧Asc z:=by
 have c:=Dec.cl_int i
 rw [←e] at c
 have l:=Dec.ds_len 199 h
 refine ⟨?_,fun d m=> ?_⟩
 · rw [←Dec.cl_len,c]
   unfold Dec.sg
   simp only [yt]
   split<;>simp<;>omega
 · have m':d∈Dec.cl z:=m
   rw [c] at m'
   unfold Dec.sg at m'
   rcases yx.mp m' with m'|m'
   · split at m'
     · rw [yv.mp m'];decide
     · cases m'
   · have:=Dec.ds_dig _ d m'
     omega
theorem wo {i:Int} (h:i.natAbs < 10^200):i.natAbs.log2 < 1920:=by
 have:=Dec.log_lt h
 rwa [Int.natAbs_natCast] at this
end K05
namespace EqD
open PySem
mutual
def dd:Pl→Nat
 | .tup ts=>dds ts
 |_=>0
def dds:List Pl→Nat
 | []=>0
 |t::ts=>max (dd t+1) (dds ts)
end
def Kx (p:Pl):Prop:=p= .str (Str.ofString "name")∨p= .str (Str.ofString "call")
mutual
def Kw (n:Nat):Pl→Prop
 | .tup ts=>((∃t∈ts,Kx t)→dds ts≤n)∧Kws n ts
 |_=>True
def Kws (n:Nat):List Pl→Prop
 | []=>True
 |t::ts=>Kw n t∧Kws n ts
end
theorem eV:∀ {ts:List Pl} {t:Pl},t∈ts→dd t+1≤dds ts
 |a::ts,t,m=>by
  rw [dds]
  rcases yk.mp m with rfl|m
  · omega
  · have:=eV m
    omega
theorem jD:∀ {ts:List Pl} {n:Nat},(∀t∈ts,dd t+1≤n)→dds ts≤n
 | [],n,_=>by rw [dds];omega
 |a::ts,n,h=>by
  rw [dds]
  have h1:=h a yn
  have h2:=jD fun t m=>h t (ym _ m)
  omega
theorem nI:∀ {n:Nat} {ts:List Pl} {t:Pl},Kws n ts→t∈ts→Kw n t
 |n,a::ts,t,h,m=>by
  rw [Kws] at h
  rcases yk.mp m with rfl|m
  · exact h.1
  · exact nI h.2 m
theorem rl:∀ {n:Nat} {ts:List Pl},(∀t∈ts,Kw n t)→Kws n ts
 |n,[],_=>by rw [Kws];trivial
 |n,a::ts,h=>by
  rw [Kws]
  exact ⟨h a yn,rl fun t m=>h t (ym _ m)⟩
theorem fu {n:Nat} {ts:List Pl} (h1:(∃t∈ts,Kx t)→dds ts≤n) (h2:∀t∈ts,Kw n t):Kw n (.tup ts):=by
 rw [Kw]
 exact ⟨h1,rl h2⟩
theorem cR {n:Nat} {ts:List Pl} (h:Kw n (.tup ts)):((∃t∈ts,Kx t)→dds ts≤n)∧∀t∈ts,Kw n t:=by
 rw [Kw] at h
 exact ⟨h.1,fun t m=>nI h.2 m⟩
mutual
theorem eR {n:Nat}:∀(p:Pl),dd p≤n→Kw n p
 | .tup ts,h=>by
  rw [Kw]
  rw [dd] at h
  exact ⟨fun _=>h,kws_small ts h⟩
 | .non,_=>by rw [Kw]<;>simp
 | .bl _,_=>by rw [Kw]<;>simp
 | .int _,_=>by rw [Kw]<;>simp
 | .str _,_=>by rw [Kw]<;>simp
 | .lst,_=>by rw [Kw]<;>simp
 | .dct,_=>by rw [Kw]<;>simp
theorem kws_small {n:Nat}:∀(ts:List Pl),dds ts≤n→Kws n ts
 | [],_=>by rw [Kws];trivial
 |t::ts,h=>by
  rw [dds] at h
  rw [Kws]
  exact ⟨eR t (by omega),kws_small ts (by omega)⟩
end
mutual
theorem Kw.mono {n m:Nat} (hm:n≤m):∀(p:Pl),Kw n p→Kw m p
 | .tup ts,h=>by
  rw [Kw] at h ⊢
  exact ⟨fun e=>yU (h.1 e) hm,Kws.mono hm ts h.2⟩
 | .non,_=>by rw [Kw]<;>simp
 | .bl _,_=>by rw [Kw]<;>simp
 | .int _,_=>by rw [Kw]<;>simp
 | .str _,_=>by rw [Kw]<;>simp
 | .lst,_=>by rw [Kw]<;>simp
 | .dct,_=>by rw [Kw]<;>simp
theorem Kws.mono {n m:Nat} (hm:n≤m):∀(ts:List Pl),Kws n ts→Kws m ts
 | [],_=>by rw [Kws];trivial
 |t::ts,h=>by
  rw [Kws] at h ⊢
  exact ⟨Kw.mono hm t h.1,Kws.mono hm ts h.2⟩
end
structure Kq (p p':Pl):Prop where
 kx:¬Kx p'
 dp:dd p'≤dd p+1
 kw:∀n,Kw n p→Kw (n+1) p'
theorem i0 {p p':Pl} (h:¬Kx p') (h2:dd p'≤1):Kq p p':=⟨h,by omega,fun n _=>eR p' (by omega)⟩
theorem dm {ts:List Pl}:¬Kx (.tup ts):=fun h=>by rcases h with h|h<;>cases h
theorem wz {ts us:List Pl} (h:∀u∈us,u∈ts):Kq (.tup ts) (.tup us):=by
 have hd:dds us≤dds ts:=jD fun t m=>eV (h t m)
 refine ⟨dm,by rw [dd,dd];omega,fun n k=> ?_⟩
 obtain ⟨k1,k2⟩:=cR k
 refine fu (fun ⟨t,m,e⟩=> ?_) fun t m=>Kw.mono (by omega) t (k2 t (h t m))
 have:=k1 ⟨t,h t m,e⟩
 omega
theorem wD (ts:List Pl):Kq (.tup ts) (.tup (ts++ [.tup ts])):=by
 have hd:dds (ts++ [.tup ts])≤dds ts+1:=jD fun t m=>by
  rcases yx.mp m with m|m
  · have:=eV m
    omega
  · rw [yv.mp m,dd]
    omega
 refine ⟨dm,by rw [dd,dd];exact hd,fun n k=> ?_⟩
 obtain ⟨k1,k2⟩:=cR k
 refine fu (fun ⟨t,m,e⟩=> ?_) fun t m=> ?_
 · rcases yx.mp m with m|m
   · have:=k1 ⟨t,m,e⟩
     omega
   · rw [yv.mp m] at e
     exact absurd e dm
 · rcases yx.mp m with m|m
   · exact Kw.mono (by omega) t (k2 t m)
   · rw [yv.mp m]
     exact Kw.mono (by omega) _ k
theorem wA {ts:List Pl} {i:Nat} {x p':Pl} (e:ts[i]?=some x) (h:Kq x p'):Kq (.tup ts) (.tup ((ts.take i++ [p'])++ts.drop (i+1))):=by
 have mx:=yw e
 have cases':∀t∈(ts.take i++ [p'])++ts.drop (i+1),t∈ts∨t=p':=fun t m=>by
  rcases yx.mp m with m|m
  · rcases yx.mp m with m|m
    · exact .inl (List.mem_of_mem_take m)
    · exact .inr (yv.mp m)
  · exact .inl (List.mem_of_mem_drop m)
 have hx:=eV mx
 have hp:=h.dp
 have hd:dds ((ts.take i++ [p'])++ts.drop (i+1))≤dds ts+1:=jD fun t m=>by
  rcases cases' t m with m|rfl
  · have:=eV m
    omega
  · omega
 refine ⟨dm,by rw [dd,dd];exact hd,fun n k=> ?_⟩
 obtain ⟨k1,k2⟩:=cR k
 refine fu (fun ⟨t,m,ek⟩=> ?_) fun t m=> ?_
 · rcases cases' t m with m|rfl
   · have:=k1 ⟨t,m,ek⟩
     omega
   · exact absurd ek h.kx
 · rcases cases' t m with m|rfl
   · exact Kw.mono (by omega) t (k2 t m)
   · exact h.kw n (k2 x mx)
open PySem L2 Mth
theorem PlsAt.drop {H:Hp}:∀ {vs:List V} {ts:List Pl} (n:Nat),PlsAt H vs ts→PlsAt H (vs.drop n) (ts.drop n)
 |vs,ts,0,h=>h
 |vs,[],n+1,h=>by
  unfold PlsAt at h
  subst h
  exact .nil
 |vs,t::ts,n+1,h=>by
  obtain ⟨v,r,rfl,_,h2⟩:=h.inv
  exact PlsAt.drop n h2
theorem PlsAt.take {H:Hp}:∀ {vs:List V} {ts:List Pl} (n:Nat),PlsAt H vs ts→PlsAt H (vs.take n) (ts.take n)
 |vs,ts,0,h=>by
  rw [List.take_zero,List.take_zero]
  exact .nil
 |vs,[],n+1,h=>by
  unfold PlsAt at h
  subst h
  exact .nil
 |vs,t::ts,n+1,h=>by
  obtain ⟨v,r,rfl,h1,h2⟩:=h.inv
  exact .cons h1 (PlsAt.take n h2)
theorem PlsAt.cut {H:Hp} {vs:List V} {ts:List Pl} (h:PlsAt H vs ts) (lo hi:Option Int):∃us,PlsAt H (cutV vs lo hi) us∧us.length≤ts.length∧∀u∈us,u∈ts:=by
 refine ⟨_,(h.drop _).take _,?_,fun u m=>List.mem_of_mem_drop (List.mem_of_mem_take m)⟩
 rw [yN,yZ]
 omega
end EqD
namespace K05
open PySem L2 Mth EqD
noncomputable def odd1:List Pl:= [.non, .bl true, .bl false, .int 0, .int 1, .int (-7), .str (Str.ofString ""), .str (Str.ofString "a"), .str (Str.ofString "B"), .str (Str.ofString "a b"), .str (Str.ofString "a1"), .lst, .tup [], .lst, .tup [.str (Str.ofString "name")], .tup [.str (Str.ofString "name"), .str (Str.ofString "a")]]
noncomputable def odd2:List Pl:= [.tup [.str (Str.ofString "call"), .str (Str.ofString "f"), .tup []], .dct, .tup [.int 1, .int 2], .tup [.int 2, .int 4], .tup [.int 0, .int 1], .tup [.str (Str.ofString "flag"), .str (Str.ofString "p")], .tup [.str (Str.ofString "both"), .lst], .tup [.str (Str.ofString "not"), .tup []]]
theorem bu {x:Str} (h:decide (x.length≤300)=true) (h2:x.cps.toList.all (fun c=>decide (c < 128))=true) (l d:Nat):Gp l d (.str x):= .str d x (of_decide_eq_true h) fun c m=>of_decide_eq_true (z5.mp h2 c m)
theorem dY {i:Int} (h:decide (i.natAbs≤100)=true) (l d:Nat):Gp l d (.int i):= .int d i (yG (of_decide_eq_true h) (by decide +kernel))
theorem we {l:Nat} (h3:3≤l):∀p∈odd1++odd2,Gp l 2 p:=by
 intro p m
 refine Gp.mono (l:=3) (d:=2) ?_ h3 (yl 2)
 simp only [odd1,odd2,List.cons_append,List.nil_append,yk,yq,or_false] at m
 have tp:∀ {ts:List Pl} {d:Nat},ts.length≤3→(∀t∈ts,Gp 3 d t)→Gp 3 (d+1) (.tup ts):=fun h1 h2=> .tup _ _ h1 (fun z=>by omega) h2
 rcases m with rfl|rfl|rfl|rfl|rfl|rfl|rfl|rfl|rfl|rfl|rfl|rfl|rfl|rfl|rfl|rfl|rfl|rfl|rfl|rfl|rfl|rfl|rfl|rfl
 · exact .non _
 · exact .bl _ _
 · exact .bl _ _
 · exact dY rfl _ _
 · exact dY rfl _ _
 · exact dY rfl _ _
 · exact bu (by decide +kernel) (by decide +kernel) _ _
 · exact bu (by decide +kernel) (by decide +kernel) _ _
 · exact bu (by decide +kernel) (by decide +kernel) _ _
 · exact bu (by decide +kernel) (by decide +kernel) _ _
 · exact bu (by decide +kernel) (by decide +kernel) _ _
 · exact .lst _
 · exact tp (by simp) (by simp)
 · exact .lst _
 · exact tp (by simp) (by simp only [za,yq,false_imp_iff,implies_true,and_true];exact bu (by decide +kernel) (by decide +kernel) _ _)
 · exact tp (by simp) (by simp only [za,yq,false_imp_iff,implies_true,and_true];exact ⟨bu (by decide +kernel) (by decide +kernel) _ _,bu (by decide +kernel) (by decide +kernel) _ _⟩)
 · exact tp (by simp) (by simp only [za,yq,false_imp_iff,implies_true,and_true];exact ⟨bu (by decide +kernel) (by decide +kernel) _ _,bu (by decide +kernel) (by decide +kernel) _ _,tp (d:=0) (by simp) (by simp)⟩)
 · exact .dct _
 · exact tp (by simp) (by simp only [za,yq,false_imp_iff,implies_true,and_true];exact ⟨dY rfl _ _,dY rfl _ _⟩)
 · exact tp (by simp) (by simp only [za,yq,false_imp_iff,implies_true,and_true];exact ⟨dY rfl _ _,dY rfl _ _⟩)
 · exact tp (by simp) (by simp only [za,yq,false_imp_iff,implies_true,and_true];exact ⟨dY rfl _ _,dY rfl _ _⟩)
 · exact tp (by simp) (by simp only [za,yq,false_imp_iff,implies_true,and_true];exact ⟨bu (by decide +kernel) (by decide +kernel) _ _,bu (by decide +kernel) (by decide +kernel) _ _⟩)
 · exact tp (by simp) (by simp only [za,yq,false_imp_iff,implies_true,and_true];exact ⟨bu (by decide +kernel) (by decide +kernel) _ _, .lst _⟩)
 · exact tp (by simp) (by simp only [za,yq,false_imp_iff,implies_true,and_true];exact ⟨bu (by decide +kernel) (by decide +kernel) _ _,tp (d:=0) (by simp) (by simp)⟩)
theorem xu {H:Hp} {vs:List V} {ts:List Pl} {r:Int} (h:PlsAt H vs ts) (h0:0≤r) (h1:r < (ts.length:Int)):∃v t,atI vs r=some v∧t∈ts∧PlAt H v t:=by
 obtain ⟨j,rfl⟩:∃j:Nat,r=(j:Int):=⟨r.toNat,by omega⟩
 have hl:=h.len
 have hj:j < vs.length:=by omega
 obtain ⟨t,e1,e2⟩:=h.get' (i:=j) (v:=vs[j]) (yj hj)
 exact ⟨vs[j],t,be (yj hj),yw e1,e2⟩
theorem Gp.cut {l d:Nat} (l4:l≤4) {ts us:List Pl} (h:Gp l d (.tup ts)) (hl:us.length≤ts.length) (hm:∀u∈us,u∈ts):Gp l d (.tup us):=by
 obtain ⟨d',rfl,h1,h2⟩:=h.items
 exact .tup d' us (by omega) (fun z=>by omega) fun u m=>h2 u (hm u m)
theorem cn {H:Hp} {r:Addr} {vs:List V} {ts:List Pl} (h:H r=some (.tup vs)) (h2:PlsAt H vs ts):PlAt H (.ref r) (.tup ts):=by
 unfold PlAt
 exact ⟨r,vs,rfl,h,h2⟩
theorem qE {H:Hp} {r:Addr} {vs:List V} (h:H r=some (.lst vs)):PlAt H (.ref r) .lst:=by
 unfold PlAt
 exact ⟨r,vs,rfl,h⟩
theorem cU {H:Hp} {x:Str}:PlAt H (.str x) (.str x):=by unfold PlAt;rfl
theorem qF {H:Hp} {x:Int}:PlAt H (.int x) (.int x):=by unfold PlAt;rfl
theorem uW {H:Hp} {x:Bool}:PlAt H (.bl x) (.bl x):=by unfold PlAt;rfl
theorem oQ {x:Str} {lo hi:Option Int} (h:Asc x):Asc (Txt.slice x lo hi):=fun c m=>h c (eZ m)
noncomputable def asgV:Stmt→Expr
 | .Assign _ v _=>v
 |_=> .Constant .none 0 ⟨0,0,0,0⟩
noncomputable def asgW (s:Stmt) (L:Expr):Stmt:=match s with
 | .Assign ts _ p=> .Assign ts L p
 |s=>s
noncomputable def asgB:Stmt→Expr
 | .Assign _ (.BinOp _ _ v _) _=>v
 |_=> .Constant .none 0 ⟨0,0,0,0⟩
noncomputable def asgX (s:Stmt) (L:Expr):Stmt:=match s with
 | .Assign ts (.BinOp a o _ q) p=> .Assign ts (.BinOp a o L q) p
 |s=>s
theorem oM {n:Nat} {L:Expr} {ts:List Pl} (h:iM n L=some ts) {tg:Option Expr} {line:Nat} {env:Env}:swapsWith L tg line env=pure false:=by
 unfold iM at h
 split at h
 · rfl
 · cases h
noncomputable abbrev bdO (i:Nat):Stmt:=(au sOdd).getD i (.Pass ⟨0,0,0,0⟩)
theorem wC {p:Pl}:Kq p .lst:=i0 (fun h=>by rcases h with h|h<;>cases h) (by rw [dd]<;>simp)
theorem v8 {p:Pl} {b:Bool}:Kq p (.bl b):=i0 (fun h=>by rcases h with h|h<;>cases h) (by rw [dd]<;>simp)
theorem rp {p:Pl} {i:Int}:Kq p (.int i):=i0 (fun h=>by rcases h with h|h<;>cases h) (by rw [dd]<;>simp)
theorem hW {p:Pl} {x:Str} (h:¬Kx (.str x)):Kq p (.str x):=i0 h (by rw [dd]<;>simp)
theorem v7 {x:Str} {P:Nat→Prop} (h:∀c∈x.cps.toList,P c) (h1:¬P 110) (h2:¬P 99):¬Kx (.str x):=fun e=>by
 rcases e with e|e
 · injection e with e
   exact h1 (h 110 (by rw [e];decide +kernel))
 · injection e with e
   exact h2 (h 99 (by rw [e];decide +kernel))
theorem xR {x:Str} (hA:∀c∈x.cps.toList,c < 128):¬Kx (.str (Txt.upper x)):=by
 have low:∀c,c < 128→PyProof.Rows.up1 c≠110∧PyProof.Rows.up1 c≠99:=by decide +kernel
 refine v7 (P:=fun c=>c≠110∧c≠99) (fun c m=> ?_) (fun h=>h.1 rfl) (fun h=>h.2 rfl)
 rw [PyProof.Rows.upper_ascii hA] at m
 have m':c∈(x.cps.map PyProof.Rows.up1).toList:=m
 rw [Array.toList_map] at m'
 obtain ⟨d,md,rfl⟩:=yV.mp m'
 exact low d (hA d md)
theorem wq (i:Int):¬Kx (.str (Str.ofString (toString i))):=by
 have c:=Dec.cl_int i
 refine v7 (P:=fun c=>c < 99) (fun d m=> ?_) (by decide) (by decide)
 have m':d∈Dec.cl (Str.ofString (toString i)):=m
 rw [c] at m'
 unfold Dec.sg at m'
 rcases yx.mp m' with m'|m'
 · split at m'
   · rw [yv.mp m'];decide
   · cases m'
 · have:=Dec.ds_dig _ d m'
   omega
theorem wu (x:Str):¬Kx (.str (Txt.slice (x++Str.ofString "abcdefgh") none (some 9))):=by
 have l8:(Str.ofString "abcdefgh").length=8:=by decide +kernel
 have ll:(x++Str.ofString "abcdefgh").length=x.length+8:=by rw [PySem.Str.length_append,l8]
 by_cases q:(9:Int)≤((x++Str.ofString "abcdefgh").length:Int)
 · have l9:=(PyProof.Rows.fact_slice_ns (x++Str.ofString "abcdefgh") 9).1 (by decide) q
   generalize Txt.slice (x++Str.ofString "abcdefgh") none (some 9)=y at l9
   rintro (e|e)<;>injection e with e<;>subst e
   · exact absurd l9 (by decide +kernel)
   · exact absurd l9 (by decide +kernel)
 · have x0:x.length=0:=by omega
   have ex:x=⟨#[]⟩:=by
    obtain ⟨cp⟩:=x
    have:cp.size=0:=x0
    rw [Array.size_eq_zero_iff.mp this]
   rw [ex]
   rintro (e|e)<;>injection e with e<;>exact absurd (congrArg (fun s:Str=>s.cps.toList) e) (by decide +kernel)
theorem kxs {x:Str} (h:x.cps.toList≠(Str.ofString "name").cps.toList) (h2:x.cps.toList≠(Str.ofString "call").cps.toList):¬Kx (.str x):=fun e=>by
 rcases e with e|e
 · injection e with e
   exact h (by rw [e])
 · injection e with e
   exact h2 (by rw [e])
theorem nG:∀p∈odd1++odd2,¬Kx p∧dd p≤1:=by
 intro p m
 simp only [odd1,odd2,List.cons_append,List.nil_append,yk,yq,or_false] at m
 rcases m with rfl|rfl|rfl|rfl|rfl|rfl|rfl|rfl|rfl|rfl|rfl|rfl|rfl|rfl|rfl|rfl|rfl|rfl|rfl|rfl|rfl|rfl|rfl|rfl
 all_goals refine ⟨?_,by simp [dd,dds]⟩
 all_goals first|exact kxs (by decide +kernel) (by decide +kernel)|(rintro (h|h)<;>cases h)
theorem wB {p t:Pl} (m:t∈odd1++odd2):Kq p t:=i0 (nG t m).1 (nG t m).2
section
variable {P:Program} {w:World} {K:PySem.W.Frag} {mg:Str→Option Value} {base:Heap}
def n6 (l:Nat):Sp:=fun vs H Q _=>∃(f c:Addr) (v:V) (p:Pl) (d:Nat),vs= [.ref f,v]∧FeedAt H f c∧PlAt H v p∧Gp l d p∧
 ∀v' p' H',FeedAt H' f c→But f c H H'→PlAt H' v' p'→Gp (l+1) (d+2) p'→Kq p p'→Q v' H'
theorem scOd:az ["_law_feed_here","_law_thing","_law_way","_law_some"] ["_law_feed_here","_law_thing"] (ag sOdd):=⟨rfl,rfl,rfl,by decide +kernel,rfl,by decide +kernel,by decide +kernel⟩
theorem qT {f fD:Addr} {fd fdD:FuncData} (F:Fun K "_law_odd" "_law_odd" sOdd f fd) (B:Blt mg) (FD:Fun K "_law_draw" "_law_draw" cO fD fdD) (bD:Binds K fdD ["_law_feed_here","_law_many"] []) (mD:mg "_law_draw"=some (.ref fD)) {l:Nat} (l3:3≤l) (l9:l≤4):
 FnOk P w K mg base CX0 2 f fd ["_law_feed_here","_law_thing"] (n6 l):=by
 have GD:FnOk P w K mg base CX0 1 fD fdD ["_law_feed_here","_law_many"] bY:=cw FD B
 refine F.ok scOd (fun vs H Q E h=> ?_) (fun cdv A outer s H vs Q E hr h=> ?_)
 · obtain ⟨f,c,v,p,d,rfl,_⟩:=h
   rfl
 obtain ⟨f,c,v,p,d,rfl,hF,hv,hg,k⟩:=h
 have hr1:Room 1 _:=hr.mono (by decide)
 have eB:au sOdd=bdO 0::bdO 1::bdO 2::bdO 3::asgW (bdO 4) (asgV (bdO 4))::asgX (bdO 5) (asgB (bdO 5))::(au sOdd).drop 6:=rfl
 have e1:iM 9 (asgV (bdO 4))=some odd1:=rfl
 have e2:iM 9 (asgB (bdO 5))=some odd2:=rfl
 rw [eB]
 clear eB
 generalize asgV (bdO 4)=L1 at e1 ⊢
 generalize asgB (bdO 5)=L2 at e2 ⊢
 refine ⟨_,ae (aA (i:=2) scOd.nd rfl (Or.inl rfl) (af GD hr1 rfl mD FD.kp bD .nil aj (a9 (pv 0) (a9 ac aa))))
  (ae (aM (PW.pt (eA (aE iJ (pv 2) ac (ax _)) (dz (aJ (ao (r:=rIsi K) aN rfl B.isi am (a9 (pv 1) (a9 (aT (v:= .ty "tuple") rfl B.tu PyProof.Rows.boot_tuple rfl) aa)))))))
   (ai (ak (aq aO (aR (a9 (bJ de rfl B.li PyProof.Rows.boot_list (a9 (pv 1) aa)) (a9 (aB eP (pv 1) (aX (a9 (pv 1) aa))) (a9 (b9 sl_A (pv 1) (bf ac) bx) aa)))) (pv 2) fun _ _=>rfl))) aw)
  (ae (aM (PW.pt (eA (gY ny iJ ac (pv 2) ac) (dz (aJ (ao (r:=rIsi K) aN rfl B.isi am (a9 (pv 1) (a9 (aT (v:= .ty "str") rfl B.st PyProof.Rows.boot_str rfl) aa)))))))
   (ai (ak (aq aO (aR (a9 (ji PySem.F.plainAttrs_str PySem.F.slot_str_upper PySem.F.type_str_upper r6 (pv 1)) (a9 (b9 gR (aB eE (pv 1) aG) bx (bf ac)) (a9 aG aa)))) (aB cV (pv 2) ac) fun _ _=>rfl))) aw)
  (ae (aM (PW.pt (eA (gY ny iJ ac (pv 2) ac) (dz (aJ (ao (r:=rIsi K) aN rfl B.isi am (a9 (pv 1) (a9 (aT (v:= .ty "int") rfl B.it PyProof.Rows.boot_int rfl) aa)))))))
   (ai (ak (aq aO (aR (a9 (aY vY (pv 1) ac (ax _)) (a9 (bJ pj rfl B.st PyProof.Rows.boot_str (a9 (pv 1) aa)) (a9 (aB tP ac (pv 1)) aa)))) (aB cV (pv 2) ac) fun _ _=>rfl))) aw)
  (ae (aA (i:=3) scOd.nd rfl (Or.inl rfl) (k9 9 e1) (oM e1))
  (ae (aA (i:=3) scOd.nd rfl (Or.inl rfl) (aB lX (pv 3) (k9 9 e2)))
  (ai (ak (aq aO (pv 3) (af GD hr1 rfl mD FD.kp bD .nil aj (a9 (pv 0) (a9 ac aa))) fun _ _=>rfl)))))))),?_⟩
 have hL:(20000:Nat)≤sizeLine:=by decide +kernel
 refine ⟨_,rfl,f,c,12,rfl,hF,by decide,aW (by decide) (by decide),fun wy H1 w0 w12 hF1 kp1=> ?_⟩
 have b1:But f c H H1:=But.of_keep kp1
 have hv1:=hv.mono (But.ke b1 hF hF1)
 clear hv hF kp1
 refine aV ?_
 try dsimp only
 refine c7 (fun σ' H'=>σ'= [some (.ref f),some v,some (.int wy),none]∧H1=H') ?_ fun nx hnx=> ?_
 rotate_left
 · refine ⟨_,rfl,_,_,rfl,rfl,_,rfl,?_⟩
   refine ite2 (fun z=> ?_) (fun z=> ?_)
   rotate_left
   · exact iteF (hnx _ _ ⟨rfl,rfl⟩)
   have z':wy < 3:=of_decide_eq_true z
   refine ⟨_,rfl,v, .ty "tuple",_,bV p,rfl,bw hv1, .inl ⟨rfl,bz K p⟩,_,rfl,?_⟩
   cases p with
   |tup ts=>
    refine iteT ?_
    have hv':=hv1
    unfold PlAt at hv'
    obtain ⟨r,vs,rfl,g,hT⟩:=hv'
    have tl:=hT.len
    obtain ⟨d',rfl,g1,g2⟩:=hg.items
    refine ⟨_,rfl,r,vs,rfl, .inr (SqT.of g),fun q nq=> ?_⟩
    have sq:=ah (o:= .lst vs) nq
    have hq:=ad (H:=H1) (a:=q) (o:= .lst vs)
    generalize upd H1 q (.lst vs)=H2 at sq hq ⊢
    refine ⟨_,rfl,_,rfl,by show 1≤sizeLine;omega,fun q2 nq2=> ?_⟩
    have sq2:=ah (o:= .tup [.ref r]) nq2
    have hq2:=ad (H:=H2) (a:=q2) (o:= .tup [.ref r])
    generalize upd H2 q2 (.tup [.ref r])=H3 at sq2 hq2 ⊢
    refine ⟨r,q2,vs,[.ref r],rfl,rfl,sq2 _ _ (sq _ _ g),hq2,by simp only [yJ];omega,fun r3 H4 s4 e4=> ?_⟩
    refine ⟨_,rfl,1,rfl,r,vs,rfl,s4 _ _ (sq2 _ _ (sq _ _ g)),fun r4 H5 s5 e5=> ?_⟩
    refine ⟨by show 3≤sizeLine;omega,fun L nL=> ?_⟩
    have sL:=ah (o:= .lst [.ref q, .ref r3, .ref r4]) nL
    have hLL:=ad (H:=H5) (a:=L) (o:= .lst [.ref q, .ref r3, .ref r4])
    generalize upd H5 L (.lst [.ref q, .ref r3, .ref r4])=H6 at sL hLL ⊢
    have sA:Same H1 H6:=sq.trans (sq2.trans (s4.trans (s5.trans sL)))
    have hT6:=hT.mono (Ke.of_same sA)
    have b6:=b1.trans (But.of_same sA)
    have w3:wy=0∨wy=1∨wy=2:=by omega
    rcases w3 with rfl|rfl|rfl
    · refine ⟨_,rfl,L,_,0, .ref q,rfl,rfl,SqL.of hLL,rfl,?_⟩
      exact k (.ref q) .lst H6 (hF1.same sA) b6 (qE ((sq2.trans (s4.trans (s5.trans sL))) _ _ hq)) (.lst _) wC
    · refine ⟨_,rfl,L,_,1, .ref r3,rfl,rfl,SqL.of hLL,rfl,?_⟩
      refine k (.ref r3) (.tup (ts++ [.tup ts])) H6 (hF1.same sA) b6 (cn ((s5.trans sL) _ _ e4) (PlsAt.app (.cons (hv1.mono (Ke.of_same sA)) .nil) hT6)) (.tup _ _ (by rw [yt,yJ];omega) (fun z=>⟨.tup ts,by simp,by
       rw [yt,yJ] at z
       show decide ((ts.length:Int)=2)=false
       exact decide_eq_false (by omega)⟩) fun t m=> ?_) (wD ts)
      rcases yx.mp m with m|m
      · exact (g2 t m).mono (by omega) (by omega)
      · rw [yv.mp m]
        exact hg.mono (by omega) (by omega)
    · refine ⟨_,rfl,L,_,2, .ref r4,rfl,rfl,SqL.of hLL,rfl,?_⟩
      obtain ⟨us,h1,h2,h3⟩:=hT6.cut (some 1) none
      exact k (.ref r4) (.tup us) H6 (hF1.same sA) b6 (cn (sL _ _ e5) h1) ((hg.cut l9 h2 h3).mono (by omega) (by omega)) (wz h3)
   |_=>exact iteF (hnx _ _ ⟨rfl,rfl⟩)
 rintro _ _ ⟨rfl,rfl⟩
 refine c7 (fun σ' H'=>σ'= [some (.ref f),some v,some (.int wy),none]∧H1=H') ?_ fun nx hnx=> ?_
 rotate_left
 · refine ⟨_,rfl,_,_,rfl,rfl,_,rfl,?_⟩
   refine ite2 (fun z=> ?_) (fun z=> ?_)
   rotate_left
   · exact ⟨_,rfl,iteF (iteF (hnx _ _ ⟨rfl,rfl⟩))⟩
   have z1:(3:Int)≤wy:=of_decide_eq_true z
   refine ⟨_,_,rfl,rfl,_,rfl,?_⟩
   refine ite2 (fun z=> ?_) (fun z=> ?_)
   rotate_left
   · exact iteF (hnx _ _ ⟨rfl,rfl⟩)
   have z2:wy < 6:=of_decide_eq_true z
   refine ⟨_,rfl,v, .ty "str",_,i3 p,rfl,bw hv1, .inl ⟨rfl,gj K p⟩,_,rfl,?_⟩
   cases p with
   |str x=>
    refine iteT ?_
    have hv':=hv1
    unfold PlAt at hv'
    subst hv'
    obtain ⟨x1,x2⟩:x.length≤300∧Asc x:=by
     cases hg with
     |str _ _ a b=>exact ⟨a,b⟩
    obtain ⟨u1,u2⟩:=jN x2
    have l8:(Str.ofString "abcdefgh").length=8:=by decide +kernel
    have a8:Asc (Str.ofString "abcdefgh"):=by
     have:(Str.ofString "abcdefgh").cps.toList.all (fun c=>decide (c < 128))=true:=by decide +kernel
     exact fun c m=>of_decide_eq_true (z5.mp this c m)
    have lz:(x++Str.ofString "abcdefgh").length≤308:=by rw [PySem.Str.length_append,l8];omega
    have lz2:(Txt.slice (x++Str.ofString "abcdefgh") none (some 9)).length≤9:=by
     by_cases q:(9:Int)≤((x++Str.ofString "abcdefgh").length:Int)
     · have:=(PyProof.Rows.fact_slice_ns (x++Str.ofString "abcdefgh") 9).1 (by decide) q
       omega
     · have:=Txt.slice_le (x++Str.ofString "abcdefgh") none (some 9)
       omega
    refine ⟨_,rfl,rfl,x,rfl,rfl,x2,by omega,?_⟩
    refine ⟨_,rfl,x,_,rfl,rfl,by rw [l8];omega,9,rfl,_,rfl,by omega,?_⟩
    refine ⟨by show 3≤sizeLine;omega,fun L nL=> ?_⟩
    have sL:=ah (o:= .lst [.str (Txt.upper x), .str (Txt.slice (x++Str.ofString "abcdefgh") none (some 9)), .str (Str.ofString "")]) nL
    have hLL:=ad (H:=H1) (a:=L) (o:= .lst [.str (Txt.upper x), .str (Txt.slice (x++Str.ofString "abcdefgh") none (some 9)), .str (Str.ofString "")])
    generalize upd H1 L (.lst [.str (Txt.upper x), .str (Txt.slice (x++Str.ofString "abcdefgh") none (some 9)), .str (Str.ofString "")])=H6 at sL hLL ⊢
    have b6:=b1.trans (But.of_same sL)
    have w3:wy=3∨wy=4∨wy=5:=by omega
    rcases w3 with rfl|rfl|rfl
    · refine ⟨_,rfl,_,_,rfl,rfl,L,_,_,_,rfl,rfl,SqL.of hLL,rfl,?_⟩
      exact k _ _ H6 (hF1.same sL) b6 cU (.str _ _ (by omega) u2) (hW (xR x2))
    · refine ⟨_,rfl,_,_,rfl,rfl,L,_,_,_,rfl,rfl,SqL.of hLL,rfl,?_⟩
      exact k _ _ H6 (hF1.same sL) b6 cU (.str _ _ (by omega) (oQ (uE x2 a8))) (hW (wu x))
    · refine ⟨_,rfl,_,_,rfl,rfl,L,_,_,_,rfl,rfl,SqL.of hLL,rfl,?_⟩
      exact k _ _ H6 (hF1.same sL) b6 cU (bu (by decide +kernel) (by decide +kernel) _ _) (hW (by rintro (h|h)<;>exact absurd (congrArg (fun p=>match p with|Pl.str x=>x.cps.toList|_=> []) h) (by decide +kernel)))
   |_=>exact iteF (hnx _ _ ⟨rfl,rfl⟩)
 rintro _ _ ⟨rfl,rfl⟩
 refine c7 (fun σ' H'=>σ'= [some (.ref f),some v,some (.int wy),none]∧H1=H') ?_ fun nx hnx=> ?_
 rotate_left
 · refine ⟨_,rfl,_,_,rfl,rfl,_,rfl,?_⟩
   refine ite2 (fun z=> ?_) (fun z=> ?_)
   rotate_left
   · exact ⟨_,rfl,iteF (iteF (hnx _ _ ⟨rfl,rfl⟩))⟩
   have z1:(6:Int)≤wy:=of_decide_eq_true z
   refine ⟨_,_,rfl,rfl,_,rfl,?_⟩
   refine ite2 (fun z=> ?_) (fun z=> ?_)
   rotate_left
   · exact iteF (hnx _ _ ⟨rfl,rfl⟩)
   have z2:wy < 9:=of_decide_eq_true z
   refine ⟨_,rfl,v, .ty "int",_,isInt p,rfl,bw hv1, .inl ⟨rfl,jy K p⟩,_,rfl,?_⟩
   have w3:wy=6∨wy=7∨wy=8:=by omega
   cases p with
   |int i=>
    refine iteT ?_
    have hv':=hv1
    unfold PlAt at hv'
    subst hv'
    have i1:i.natAbs < 10^200:=by
     cases hg with
     |int _ _ a=>exact a
    obtain ⟨t1,t2⟩:=uD (i:=i) rfl i1
    refine ⟨_,rfl,1,rfl, .inl ⟨i,rfl⟩,fun cc=> ?_⟩
    refine ⟨_,rfl, .inl ⟨i,rfl,wo i1,?_⟩⟩
    refine ⟨_,rfl,0,rfl, .inl ⟨i,rfl,?_⟩⟩
    refine ⟨by show 3≤sizeLine;omega,fun L nL=> ?_⟩
    have sL:=ah (o:= .lst [.bl cc, .str (Str.ofString (toString i)), .int (0 - i)]) nL
    have hLL:=ad (H:=H1) (a:=L) (o:= .lst [.bl cc, .str (Str.ofString (toString i)), .int (0 - i)])
    have b6:=b1.trans (But.of_same sL)
    rcases w3 with rfl|rfl|rfl
    · refine ⟨_,rfl,_,_,rfl,rfl,L,_,_,_,rfl,rfl,SqL.of hLL,rfl,?_⟩
      exact k _ _ _ (hF1.same sL) b6 uW (.bl _ _) v8
    · refine ⟨_,rfl,_,_,rfl,rfl,L,_,_,_,rfl,rfl,SqL.of hLL,rfl,?_⟩
      exact k _ _ _ (hF1.same sL) b6 cU (.str _ _ t1 t2) (hW (wq i))
    · refine ⟨_,rfl,_,_,rfl,rfl,L,_,_,_,rfl,rfl,SqL.of hLL,rfl,?_⟩
      exact k _ _ _ (hF1.same sL) b6 qF (.int _ _ (by rw [show (0 - i).natAbs=i.natAbs by omega];exact i1)) rp
   |bl b=>
    refine iteT ?_
    have hv':=hv1
    unfold PlAt at hv'
    subst hv'
    refine ⟨_,rfl,1,rfl, .inr ⟨b,rfl⟩,fun cc=> ?_⟩
    refine ⟨_,rfl, .inr ⟨b,rfl,?_⟩⟩
    refine ⟨_,rfl,0,rfl, .inr ⟨b,rfl,?_⟩⟩
    have hb:((0:Int) - if b=true then (1:Int) else 0).natAbs≤100:=by split<;>decide
    have hs:∀l d,Gp l d (.str (if b=true then Str.ofString "True" else Str.ofString "False")):=fun l d=>by
     cases b with
     |true=>exact bu (by decide +kernel) (by decide +kernel) _ _
     |false=>exact bu (by decide +kernel) (by decide +kernel) _ _
    have hk:¬Kx (.str (if b=true then Str.ofString "True" else Str.ofString "False")):=by
     cases b<;>(rintro (h|h)<;>exact absurd (congrArg (fun p=>match p with|Pl.str x=>x.cps.toList|_=> []) h) (by decide +kernel))
    generalize (0:Int) - (if b=true then (1:Int) else 0)=ib at hb ⊢
    revert hs hk
    generalize (if b=true then Str.ofString "True" else Str.ofString "False")=tb
    intro hs hk
    refine ⟨by show 3≤sizeLine;omega,fun L nL=> ?_⟩
    have sL:=ah (o:= .lst [.bl cc, .str tb, .int ib]) nL
    have hLL:=ad (H:=H1) (a:=L) (o:= .lst [.bl cc, .str tb, .int ib])
    have b6:=b1.trans (But.of_same sL)
    rcases w3 with rfl|rfl|rfl
    · refine ⟨_,rfl,_,_,rfl,rfl,L,_,_,_,rfl,rfl,SqL.of hLL,rfl,?_⟩
      exact k _ _ _ (hF1.same sL) b6 uW (.bl _ _) v8
    · refine ⟨_,rfl,_,_,rfl,rfl,L,_,_,_,rfl,rfl,SqL.of hLL,rfl,?_⟩
      exact k _ _ _ (hF1.same sL) b6 cU (hs _ _) (hW hk)
    · refine ⟨_,rfl,_,_,rfl,rfl,L,_,_,_,rfl,rfl,SqL.of hLL,rfl,?_⟩
      exact k _ _ _ (hF1.same sL) b6 qF (dY (decide_eq_true hb) _ _) rp
   |_=>exact iteF (hnx _ _ ⟨rfl,rfl⟩)
 rintro _ _ ⟨rfl,rfl⟩
 intro A1 vs1 H2 s2 _ hA hP1
 refine aV ?_
 try dsimp only
 refine ⟨_,rfl,?_⟩
 intro A2 vs2 H3 s3 _ hB hP2
 have l1:=hP1.len
 have l2:=hP2.len
 have c1:odd1.length=16:=rfl
 have c2:odd2.length=8:=rfl
 refine ⟨A1,A2,vs1,vs2,rfl,rfl,s3 _ _ hA,hB,by omega,fun L nL=> ?_⟩
 have sL:=ah (o:= .lst (vs1++vs2)) nL
 have hLL:=ad (H:=H3) (a:=L) (o:= .lst (vs1++vs2))
 have hP:=PlsAt.app hP2 (hP1.mono (Ke.of_same s3))
 have hP4:=hP.mono (Ke.of_same sL)
 have s4:=s2.trans (s3.trans sL)
 generalize upd H3 L (.lst (vs1++vs2))=H4 at sL hLL hP4 s4 ⊢
 have nLf:=(hF1.same s4)
 refine aV ?_
 try dsimp only
 refine ⟨_,rfl,_,rfl,f,c,24,rfl,nLf,by decide,aW (by decide) (by decide),fun r H5 r0 r24 hF5 kp5=> ?_⟩
 have b5:But f c H4 H5:=But.of_keep kp5
 have nf:=(hF1.same (s2.trans s3)).ne nL
 have hL5:H5 L=some (.lst (vs1++vs2)):=b5 _ _ nf.1 nf.2 hLL
 obtain ⟨x,t,e1',mt,hx⟩:=xu (hP4.mono (But.ke b5 nLf hF5)) r0 (by rw [yt,c1,c2];exact r24)
 refine ⟨L,_,r,x,rfl,rfl,SqL.of hL5,e1',?_⟩
 exact k x t H5 hF5 (b1.trans ((But.of_same s4).trans b5)) hx ((we l3 t mt).mono (by omega) (by omega)) (wB mt)
end
open PySem L2 Mth EqD
theorem pf {vs:List V} {j:Nat} (hj:j < vs.length):cutV vs none (some (j:Int))=vs.take j∧cutV vs (some ((j:Int)+1)) none=vs.drop (j+1):=by
 unfold cutV
 have e1:HT.sIx vs.length vs.length (some (j:Int))=j:=by rw [HT.sIx_nat];omega
 have e2:HT.sIx vs.length 0 (some ((j:Int)+1))=j+1:=by
  rw [show (j:Int)+1=((j+1:Nat):Int) by omega,HT.sIx_nat]
  omega
 rw [e1,e2]
 refine ⟨by simp [HT.sIx_none],?_⟩
 rw [HT.sIx_none]
 apply zg
 rw [yZ]
 omega
section
variable {P:Program} {w:World} {K:PySem.W.Frag} {mg:Str→Option Value} {base:Heap}
def gK (l n:Nat):Sp:=fun vs H Q _=>∃(f c:Addr) (v:V) (p:Pl) (d:Nat),vs= [.ref f,v]∧FeedAt H f c∧PlAt H v p∧Gp l d p∧d < n∧
 ∀v' p' H',FeedAt H' f c→But f c H H'→PlAt H' v' p'→Gp (l+1) (d+2) p'→Kq p p'→Q v' H'
theorem scBe:az ["_law_feed_here","_law_thing","_law_at"] ["_law_feed_here","_law_thing"] (ag iG):=⟨rfl,rfl,rfl,by decide +kernel,rfl,by decide +kernel,by decide +kernel⟩
theorem nB {f fD fO:Addr} {fd fdD dO:FuncData} (F:Fun K "_law_bent" "_law_bent" iG f fd) (bF:Binds K fd ["_law_feed_here","_law_thing"] []) (mF:mg "_law_bent"=some (.ref f)) (B:Blt mg) (FD:Fun K "_law_draw" "_law_draw" cO fD fdD) (bD:Binds K fdD ["_law_feed_here","_law_many"] []) (mD:mg "_law_draw"=some (.ref fD))
 {l:Nat} (l3:3≤l) (l9:l≤4) (GO:FnOk P w K mg base CX0 2 fO dO ["_law_feed_here","_law_thing"] (n6 l)) (kO:PySem.W.keepIn K (.ref fO)=true) (bO:Binds K dO ["_law_feed_here","_law_thing"] []) (mO:mg "_law_odd"=some (.ref fO)):
 ∀n,FnOk P w K mg base CX0 (n+3) f fd ["_law_feed_here","_law_thing"] (gK l n):=by
 have GD:FnOk P w K mg base CX0 1 fD fdD ["_law_feed_here","_law_many"] bY:=cw FD B
 intro n
 induction n with
 |zero=>exact ⟨fun vs H Q E ⟨_,_,_,_,_,_,_,_,_,h,_⟩=>absurd h (by omega),fun A outer s H args us vs Q E _ _ _ _ ⟨_,_,_,_,_,_,_,_,_,h,_⟩=>absurd h (by omega)⟩
 |succ n ih=>
  refine F.ok scBe (fun vs H Q E h=> ?_) (fun cdv A outer s H vs Q E hr h=> ?_)
  · obtain ⟨f,c,v,p,d,rfl,_⟩:=h
    rfl
  obtain ⟨f,c,v,p,d,rfl,hF,hv,hg,hd,k⟩:=h
  have hr1:Room 1 _:=hr.mono (by omega)
  refine ⟨_,ae (aM (PW.pt (eA (aJ (ao (r:=rIsi K) aN rfl B.isi am (a9 (pv 1) (a9 (aT (v:= .ty "tuple") rfl B.tu PyProof.Rows.boot_tuple rfl) aa))))
   (eA (aE iK (ao aU rfl B.le PySem.boot_len (a9 (pv 1) aa)) ac (ax _))
   (dz (aE iK (af GD hr1 rfl mD FD.kp bD .nil aj (a9 (pv 0) (a9 ac aa))) ac (ax _))))))
   (ae (aA (i:=2) scBe.nd rfl (Or.inl rfl) (af GD hr1 rfl mD FD.kp bD .nil aj (a9 (pv 0) (a9 (ao aU rfl B.le PySem.boot_len (a9 (pv 1) aa)) aa))))
   (ai (ak (aB eP (aB eP (b9 sl_A (pv 1) bx (bf (pv 2))) (aX (a9 (af ih hr rfl mF F.kp bF .nil aj (a9 (pv 0) (a9 (aq ar (pv 1) (pv 2) fun _ _=>rfl) aa))) aa)))
    (b9 sl_A (pv 1) (bf (aB bU (pv 2) ac)) bx))))) aw)
   (ai (ak (af GO (hr.mono (by omega)) rfl mO kO bO .nil aj (a9 (pv 0) (a9 (pv 1) aa))))),?_⟩
  have hL:(20000:Nat)≤sizeLine:=by decide +kernel
  have big:∀ {m:Int},0≤m→m≤1000→Big m:=fun h0 h1=>aW h0 (by omega)
  refine c7 (fun σ' H'=>σ'= [some (.ref f),some v,none]∧FeedAt H' f c∧But f c H H') ?_ fun nx hnx=> ?_
  rotate_left
  · refine ⟨_,rfl,v, .ty "tuple",_,bV p,rfl,bw hv, .inl ⟨rfl,bz K p⟩,_,rfl,?_⟩
    cases p with
    |tup ts=>
     refine iteT ?_
     have hv':=hv
     unfold PlAt at hv'
     obtain ⟨r,vs,rfl,g,hT⟩:=hv'
     have tl:=hT.len
     obtain ⟨d',rfl,g1,g2⟩:=hg.items
     refine ⟨_,rfl,r,vs,rfl, .inr (SqT.of g),_,_,rfl,rfl,_,rfl,?_⟩
     refine ite2 (fun z=> ?_) (fun z=> ?_)
     rotate_left
     · exact iteF (hnx _ _ ⟨rfl,hF,But.of_same (Same.refl H)⟩)
     have z0:(0:Int) < (vs.length:Int):=of_decide_eq_true z
     refine ⟨_,rfl,f,c,4,rfl,hF,by decide,aW (by decide) (by decide),fun r1 H1 _ _ hF1 kp1=> ?_⟩
     have b1:But f c H H1:=But.of_keep kp1
     have k1:=But.ke b1 hF hF1
     refine ⟨_,_,rfl,rfl,_,rfl,?_⟩
     refine ite2 (fun z=> ?_) (fun z=> ?_)
     rotate_left
     · exact hnx _ _ ⟨rfl,hF1,b1⟩
     refine ⟨_,rfl,_,rfl,r,vs,rfl, .inr (SqT.of (k1.tup _ _ g)),f,c,_,rfl,hF1,z0,big (by omega) (by omega),fun j H2 j0 jn hF2 kp2=> ?_⟩
     have b2:But f c H1 H2:=But.of_keep kp2
     have k2:=k1.trans (But.ke b2 hF1 hF2)
     obtain ⟨m,rfl⟩:∃m:Nat,j=(m:Int):=⟨j.toNat,by omega⟩
     have hm:m < vs.length:=by omega
     obtain ⟨c1,c2⟩:=pf hm
     refine aV ?_
     try dsimp only
     refine ⟨_,rfl,_,rfl,m,rfl,r,vs,rfl,k2.tup _ _ g,fun ra H3 s3 e3=> ?_⟩
     rw [c1] at e3
     have k3:=k2.trans (Ke.of_same s3)
     obtain ⟨x,ex⟩:∃x,vs[m]?=some x:=⟨vs[m],yj hm⟩
     obtain ⟨t,et,hx⟩:=hT.get' ex
     have hF3:=hF2.same s3
     refine ⟨_,rfl,_,rfl,_,rfl,r,vs,_,x,rfl,rfl,SqT.of (k3.tup _ _ g),be ex,?_⟩
     refine ⟨f,c,x,t,d',rfl,hF3,hx.mono k3,g2 t (yw et),by omega,fun v' p' H4 hF4 b4 hv4 hg4 kq4=> ?_⟩
     have k4:=But.ke b4 hF3 hF4
     refine ⟨by show 1≤sizeLine;omega,fun q nq=> ?_⟩
     have sq:=ah (o:= .tup [v']) nq
     have hq:=ad (H:=H4) (a:=q) (o:= .tup [v'])
     generalize upd H4 q (.tup [v'])=H5 at sq hq ⊢
     have k5:=k4.trans (Ke.of_same sq)
     refine ⟨ra,q,_,[v'],rfl,rfl,k5.tup _ _ e3,hq,by rw [yN,yJ];omega,fun rb H6 s6 e6=> ?_⟩
     refine ⟨_,rfl,_,rfl,_,_,rfl,rfl,_,rfl,r,vs,rfl,(k3.trans (k5.trans (Ke.of_same s6))).tup _ _ g,fun rc H7 s7 e7=> ?_⟩
     rw [c2] at e7
     refine ⟨rb,rc,_,_,rfl,rfl,s7 _ _ e6,e7,by simp only [yt,yN,yZ,yJ];omega,fun rd H8 s8 e8=> ?_⟩
     have s58:=s6.trans (s7.trans s8)
     have k8:=k3.trans (k5.trans (Ke.of_same s58))
     have hT8:=hT.mono k8
     refine k (.ref rd) (.tup ((ts.take m++ [p'])++ts.drop (m+1))) H8 ((hF4.same sq).same s58) ((b1.trans b2).trans ((But.of_same s3).trans (b4.trans (But.of_same (sq.trans s58))))) (cn e8 (PlsAt.app (hT8.drop _) (PlsAt.app (.cons (hv4.mono (Ke.of_same (sq.trans s58))) .nil) (hT8.take _)))) (.tup _ _ ?_ (fun z=> ?_) fun u mu=> ?_) (wA et kq4)
     · simp only [yt,yN,yZ,yJ]
       omega
     · simp only [yt,yN,yZ,yJ] at z
       omega
     · rcases yx.mp mu with mu|mu
       · rcases yx.mp mu with mu|mu
         · exact (g2 u (List.mem_of_mem_take mu)).mono (by omega) (by omega)
         · rw [yv.mp mu]
           exact hg4.mono (by omega) (by omega)
       · exact (g2 u (List.mem_of_mem_drop mu)).mono (by omega) (by omega)
    |_=>exact iteF (iteF (hnx _ _ ⟨rfl,hF,But.of_same (Same.refl H)⟩))
  · rintro _ H1 ⟨rfl,hF1,b1⟩
    refine ⟨_,rfl,_,rfl,f,c,v,p,d,rfl,hF1,hv.mono (But.ke b1 hF hF1),hg,fun v' p' H' hF' b' hv' hg' kq'=> ?_⟩
    exact k v' p' H' hF' (b1.trans b') hv' hg' kq'
end
open PySem L2 Mth Tre Wd EqD
theorem m7 {x:Str} (h:Trm.Nm x):Asc x:=fun c m=>by
 have:Trm.Ltr c:=h.ltr c m
 unfold Trm.Ltr at this
 omega
theorem vc {x:Str} (h:Trm.Nm x) (d:Nat):Gp 3 (d+1) (toPl (.tup [.str (Str.ofString "name"), .str x])):=by
 simp only [toPl,toPls]
 refine .tup d _ (by simp) (by simp) fun t m=> ?_
 simp only [yk,yq,or_false] at m
 rcases m with rfl|rfl
 · exact bu (by decide +kernel) (by decide +kernel) _ _
 · exact .str _ _ (by have:=h.le;omega) (m7 h)
theorem ck {ts:List Tr} {d:Nat} (h3:ts.length≤3) (ht:∀t∈ts,Gp 3 d (toPl t)):Gp 3 (d+1) (toPl (.tup ts)):=by
 simp only [toPl,cM]
 refine .tup d _ (by rw [yo];omega) (by rw [yo];omega) fun u m=> ?_
 obtain ⟨t,mt,rfl⟩:=yV.mp m
 exact ht t mt
theorem i6 {x:Str} (h:decide (x.length≤300)=true) (h2:x.cps.toList.all (fun c=>decide (c < 128))=true) (d:Nat):Gp 3 d (toPl (.str x)):=by
 rw [toPl]
 exact bu h h2 _ _
theorem xW {f:Str} {ts:List Tr} {d e:Nat} (h:Trm.Nm f) (h3:ts.length≤3) (ht:∀t∈ts,Gp 3 d (toPl t)) (hd:d+2≤e):Gp 3 e (toPl (.tup [.str (Str.ofString "call"), .str f, .tup ts])):=by
 refine Gp.mono (l:=3) (d:=d+2) (ck (d:=d+1) (by simp) fun t m=> ?_) (yl _) hd
 simp only [yk,yq,or_false] at m
 rcases m with rfl|rfl|rfl
 · exact i6 (by decide +kernel) (by decide +kernel) _
 · rw [toPl]
   exact .str _ _ (by have:=h.le;omega) (m7 h)
 · exact ck h3 ht
theorem rG {f:Fr} (h:Gf 600 f) (d:Nat):Gp 3 (d+1) (toPl (frT f)):=by
 have up:∀i:Int,i.natAbs < 2^600→i.natAbs < 10^200:=fun i z=>yB z (by decide +kernel)
 refine ck (by simp [frT]) fun t m=> ?_
 simp only [frT,yk,yq,or_false] at m
 rcases m with rfl|rfl
 · rw [toPl]
   exact .int _ _ (up _ h.top)
 · rw [toPl]
   exact .int _ _ (up _ h.bot)
theorem Names.but {f c nl:Addr} {H H':Hp} (h:Names H nl) (n1:nl≠f) (n2:nl≠c) (b:But f c H H'):Names H' nl:=by
 obtain ⟨ns,e,r⟩:=h
 exact ⟨ns,b _ _ n1 n2 e,r⟩
theorem xx {r:Int} (h0:0≤r) (h4:r < 4):∃m:Nat,atI [V.int 1, .int 1, .int 2, .int 3] r=some (.int (m:Int))∧0 < m∧m≤3:=by
 have:r=0∨r=1∨r=2∨r=3:=by omega
 rcases this with rfl|rfl|rfl|rfl
 · exact ⟨1,rfl,by decide,by decide⟩
 · exact ⟨1,rfl,by decide,by decide⟩
 · exact ⟨2,rfl,by decide,by decide⟩
 · exact ⟨3,rfl,by decide,by decide⟩
section
variable {P:Program} {w:World} {K:PySem.W.Frag} {mg:Str→Option Value} {base:Heap}
def eY (n:Nat):Sp:=fun vs H Q _=>∃(f c nl:Addr) (d:Nat),vs= [.ref f, .ref nl, .int (d:Int)]∧FeedAt H f c∧Names H nl∧nl≠f∧nl≠c∧d < n∧
 ∀v t H',FeedAt H' f c→But f c H H'→TrAt H' v t→Ty .tm t→t.depth≤2*d+1→Gp 3 (2*d+1) (toPl t)→Q v H'
theorem scTe:az ["_law_feed_here","_law_names_here","_law_deep","_law_many","_law_f"] ["_law_feed_here","_law_names_here","_law_deep"] (ag iB):=⟨rfl,rfl,rfl,by decide +kernel,rfl,by decide +kernel,by decide +kernel⟩
theorem tW {f fD:Addr} {fd fdD:FuncData} (F:Fun K "_law_term" "_law_term" iB f fd) (bF:Binds K fd ["_law_feed_here","_law_names_here","_law_deep"] []) (mF:mg "_law_term"=some (.ref f)) (B:Blt mg) (FD:Fun K "_law_draw" "_law_draw" cO fD fdD) (bD:Binds K fdD ["_law_feed_here","_law_many"] []) (mD:mg "_law_draw"=some (.ref fD)):
 ∀n,FnOk P w K mg base CX0 (n+1) f fd ["_law_feed_here","_law_names_here","_law_deep"] (eY n):=by
 have GD:FnOk P w K mg base CX0 1 fD fdD ["_law_feed_here","_law_many"] bY:=cw FD B
 intro n
 induction n with
 |zero=>exact ⟨fun vs H Q E ⟨_,_,_,_,_,_,_,_,_,h,_⟩=>absurd h (by omega),fun A outer s H args us vs Q E _ _ _ _ ⟨_,_,_,_,_,_,_,_,_,h,_⟩=>absurd h (by omega)⟩
 |succ n ih=>
  refine F.ok scTe (fun vs H Q E h=> ?_) (fun cdv A outer s H vs Q E hr h=> ?_)
  · obtain ⟨f,c,nl,d,rfl,_⟩:=h
    rfl
  obtain ⟨f,c,nl,d,rfl,hF,hN,nf,nc,hd,k⟩:=h
  have hr1:Room 1 _:=hr.mono (by omega)
  refine ⟨_,ae (aM (PW.pt (bQ (aE cf (pv 2) ac (ax _)) (bK (aE iJ (af GD hr1 rfl mD FD.kp bD .nil aj (a9 (pv 0) (a9 ac aa))) ac (ax _)))))
   (ai (ak (aX (a9 aG (a9 (aq aO (pv 1) (af GD hr1 rfl mD FD.kp bD .nil aj (a9 (pv 0) (a9 ac aa))) fun _ _=>rfl) aa))))) aw)
   (ae (aA (i:=3) scTe.nd rfl (Or.inl rfl) (aq aO (aR (a9 ac (a9 ac (a9 ac (a9 ac aa))))) (af GD hr1 rfl mD FD.kp bD .nil aj (a9 (pv 0) (a9 ac aa))) fun _ _=>rfl))
   (ae (aA (i:=4) scTe.nd rfl (Or.inl rfl) (aq aO (pv 1) (aB bU ac (af GD hr1 rfl mD FD.kp bD .nil aj (a9 (pv 0) (a9 ac aa)))) fun _ _=>rfl))
   (ai (ak (aX (a9 aG (a9 (pv 4) (a9 (bJ cF rfl B.tu PyProof.Rows.boot_tuple (a9
    (br (NC:= ["_law_k","_law_deep","_law_feed_here","_law_names_here"]) (mp:= [none,some 2,some 0,some 1]) rfl (bZ rfl B.ra (a9 (pv 3) aa)) (fun _ _ _ _ _=>aQ (i:=0) (show (["_law_k","_law_deep","_law_feed_here","_law_names_here"]:List Str).Nodup by decide +kernel) rfl (Or.inl rfl)) (fun _ _ _ _ _=>cu)
     (fun _ _ _ _ _=>af ih hr rfl mF F.kp bF .nil aj (a9 (pv 2) (a9 (pv 3) (a9 (aB cV (pv 1) ac) aa))))) aa)) aa)))))))),?_⟩
  have hL:(20000:Nat)≤sizeLine:=by decide +kernel
  have name:∀H1,FeedAt H1 f c→But f c H H1→(tRet (tTup (bE (tC (.str "name")) (bE (tOp (rIxL K) (tVar 1) (pR bY [] E0 (bE (tVar 0) (bE (tC (.int 3)) tNil)))) tNil)))) {nx:=fun _ H'=>Q .non H',rt:=Q} [some (.ref f),some (.ref nl),some (.int (d:Int)),none,none] H1:=by
   intro H1 hF1 b1
   refine ⟨_,rfl,_,rfl,f,c,3,rfl,hF1,by decide,aW (by decide) (by decide),fun r H2 h0 h3 hF2 kp2=> ?_⟩
   have b2:=b1.trans (But.of_keep kp2)
   obtain ⟨xs,x,e1,e2,wx⟩:=(hN.but nf nc b2).at h0 (by omega)
   refine ⟨nl,xs,r,_,rfl,rfl,SqL.of e1,e2,by show 2≤sizeLine;decide,fun p np=> ?_⟩
   refine k (.ref p) _ _ (hF2.wr (hF2.ne np)) (b2.wr (b2.free hF2 np)) (c6 ad (.cons bX (.cons bX .nil))) (.nm x) ?_ (vc wx _)
   simp only [Tr.depth,Trs.depth]
   omega
  refine ⟨_,rfl,rfl,_,rfl,?_⟩
  refine ite2 (fun _=>name H hF (But.of_same (Same.refl H))) (fun hd0=> ?_)
  have d0:d≠0:=fun z=>hd0 (by rw [z];decide)
  refine ⟨_,rfl,f,c,5,rfl,hF,by decide,aW (by decide) (by decide),fun r1 H1 _ _ hF1 kp1=> ?_⟩
  have b1:But f c H H1:=But.of_keep kp1
  refine ⟨_,_,rfl,rfl,_,rfl,?_⟩
  refine ite2 (fun _=>name H1 hF1 b1) (fun _=> ?_)
  refine ⟨by show 4≤sizeLine;decide,fun p np=> ?_⟩
  have nfp:=hF1.ne np
  have n0p:=b1.free hF1 np
  refine ⟨_,rfl,f,c,4,rfl,hF1.wr nfp,by decide,aW (by decide) (by decide),fun r2 H2 h0 h4 hF2 kp2=> ?_⟩
  have hp2:H2 p=some (.lst [.int 1, .int 1, .int 2, .int 3]):=(kp2 p nfp.1 nfp.2).trans ad
  have b2:=(b1.wr n0p (o:= .lst [.int 1, .int 1, .int 2, .int 3])).trans (But.of_keep kp2)
  obtain ⟨m,em,m0,m3⟩:=xx h0 h4
  refine ⟨p,_,r2,_,rfl,rfl,SqL.of hp2,em,?_⟩
  refine ⟨_,rfl,_,rfl,f,c,3,rfl,hF2,by decide,aW (by decide) (by decide),fun r3 H3 g0 g3 hF3 kp3=> ?_⟩
  have b3:=b2.trans (But.of_keep kp3)
  obtain ⟨xs,g,e1,e2,wg⟩:=(hN.but nf nc b3).at (i:=2+r3) (by omega) (by omega)
  refine ⟨_,_,rfl,rfl,nl,xs,_,_,rfl,rfl,SqL.of e1,e2,?_⟩
  refine ⟨_,rfl,?_⟩
  refine jQ ?_
  refine cm rfl ?_
  refine ⟨_,rfl,m,rfl,by omega,by omega,fun D nD=> ?_⟩
  have nfD:=hF3.ne nD
  have n0D:=b3.free hF3 nD
  refine cZ (n:=m) (fun i acc H'=>FeedAt H' f c∧But f c H H'∧H' D=some (.lst acc)∧∃ts:List Tr,TrsAt H' acc ts∧ts.length=i∧∀t∈ts,Ty .tm t∧t.depth≤2*(d - 1)+1∧Gp 3 (2*(d - 1)+1) (toPl t))
   ⟨hF3.wr nfD,b3.wr n0D,ad,[], .nil,rfl,fun y m=>by cases m⟩ ?_ ?_
  · rintro i acc H' hi ⟨hF',bt,hD,ts,hT,hl,hw⟩
    refine ⟨_,rfl,_,rfl,_,rfl,_,_,rfl,rfl,f,c,nl,d - 1,?_,hF',hN.but nf nc bt,nf,nc,by omega,fun v t H6 hF6 b6 hv wt dt gt=> ?_⟩
    · show [V.ref f, .ref nl, .int ((d:Int) - 1)]=_
      rw [show ((d:Int) - 1)=((d - 1:Nat):Int) by omega]
    · have hD6:H6 D=some (.lst acc):=b6 D _ nfD.1 nfD.2 hD
      have kd6:=b6.kd hF' hF6
      have tp:=Kd.upd (ys:=acc++ [v]) hD6
      have hl2:=hT.len
      refine CompN.mk hi (by omega) hD6 ⟨hF6.wr nfD,(bt.trans b6).wr n0D,ad,ts++ [t],TrsAt.app (.cons (hv.mono tp) .nil) (hT.mono (kd6.trans tp)),by simp [hl],fun u mu=> ?_⟩
      rcases yx.mp mu with mu|mu
      · exact hw u mu
      · rw [yv.mp mu]
        exact ⟨wt,dt,gt⟩
  · rintro acc H4 ⟨hF4,b4,hD,ts,hT,hl,hw⟩
    refine ⟨D,acc,rfl, .inl ⟨SqL.of hD,fun l nl'=> ?_⟩⟩
    refine ⟨by show 3≤sizeLine;decide,fun q nq=> ?_⟩
    have s1:Same H4 (upd H4 l (.tup acc)):=ah nl'
    have s2:Same (upd H4 l (.tup acc)) (upd (upd H4 l (.tup acc)) q (.tup [.str (Str.ofString "call"), .str g, .ref l])):=ah nq
    refine k (.ref q) _ _ (hF4.same (s1.trans s2)) (b4.trans (But.of_same (s1.trans s2))) (c6 ad (.cons bX (.cons bX (.cons (c6 (s2 _ _ ad) (hT.mono (Kd.of_same (s1.trans s2)))) .nil)))) (.ap g ts (by omega) fun t m=>(hw t m).1) ?_ (xW wg (by omega) (fun t m=>(hw t m).2.2) (by omega))
    have:=dI fun t m=>(hw t m).2.1
    simp only [Tr.depth,Trs.depth]
    omega
end
open PySem L2 Mth Tre Wd Su EqD
section
variable {P:Program} {w:World} {K:PySem.W.Frag} {mg:Str→Option Value} {base:Heap}
def PsAt (H:Hp) (l:Addr) (ps:List Pq):Prop:=∃ws,H l=some (.lst ws)∧TrsAt H ws (ps.map prT)
structure Dq (p:Pq):Prop where
 gq:Gq 30 p
 dep:p.1.depth≤5
 gp:Gp 3 5 (toPl p.1)
def fY:Sp:=fun vs H Q _=>∃(f c nl:Addr) (d m:Nat),vs= [.ref f, .ref nl, .int (d:Int), .int (m:Int)]∧FeedAt H f c∧Names H nl∧nl≠f∧nl≠c∧d < 3∧m≤20∧
 ∀(l:Addr) (ps:List Pq) (H':Hp),H l=none→FeedAt H' f c→But f c H H'→PsAt H' l ps→ps.length≤m→(∀p∈ps,Dq p)→Q (.ref l) H'
theorem scPa:az ["_law_feed_here","_law_names_here","_law_deep","_law_most","_law_found","_law_k","_law_term_here"] ["_law_feed_here","_law_names_here","_law_deep","_law_most"] (ag ff):=⟨rfl,rfl,rfl,by decide +kernel,rfl,by decide +kernel,by decide +kernel⟩
theorem qS {f fD fT fS:Addr} {fd dD dT dS:FuncData} (F:Fun K "_law_pairs" "_law_pairs" ff f fd) (B:Blt mg)
 (gD:FnOk P w K mg base CX0 1 fD dD ["_law_feed_here","_law_many"] bY) (kD:PySem.W.keepIn K (.ref fD)=true) (bD:Binds K dD ["_law_feed_here","_law_many"] []) (mD:mg "_law_draw"=some (.ref fD))
 (gT:FnOk P w K mg base CX0 4 fT dT ["_law_feed_here","_law_names_here","_law_deep"] (eY 3)) (kT:PySem.W.keepIn K (.ref fT)=true) (bT:Binds K dT ["_law_feed_here","_law_names_here","_law_deep"] []) (mT:mg "_law_term"=some (.ref fT))
 (gS:FnOk P w K mg base CX0 3 fS dS ["_law_feed_here"] pX) (kS:PySem.W.keepIn K (.ref fS)=true) (bS:Binds K dS ["_law_feed_here"] []) (mS:mg "_law_small"=some (.ref fS)):
 FnOk P w K mg base CX0 5 f fd ["_law_feed_here","_law_names_here","_law_deep","_law_most"] fY:=by
 refine F.ok scPa (fun vs H Q E h=> ?_) (fun cdv A outer s H vs Q E hr h=> ?_)
 · obtain ⟨f,c,nl,d,m,rfl,_⟩:=h
   rfl
 obtain ⟨f,c,nl,d,m,rfl,hF,hN,nf,nc,hd,hm,k⟩:=h
 have hr1:Room 1 _:=hr.mono (by decide)
 have hr3:Room 3 _:=hr.mono (by decide)
 have hu1:=i5 hr
 refine ⟨_,ae (aA (i:=4) scPa.nd rfl (Or.inl rfl) (aR aa))
  (ae (fj PassesOwn.never rfl (bZ rfl B.ra (a9 (af gD hr1 rfl mD kD bD .nil aj (a9 (pv 0) (a9 (aB bU (pv 3) ac) aa))) aa)) (aQ (i:=5) scPa.nd rfl (Or.inl rfl))
   (ae (aA (i:=6) scPa.nd rfl (Or.inl rfl) (af gT hr rfl mT kT bT .nil aj (a9 (pv 0) (a9 (pv 1) (a9 (pv 2) aa)))))
   (ae (aM (PW.pt (eA (aE (kg hu1) (pv 4) (aR aa) (ax _)) (dz (aE cf (af gD hr1 rfl mD kD bD .nil aj (a9 (pv 0) (a9 ac aa))) ac (ax _)))))
    (ai (aA (i:=6) scPa.nd rfl (Or.inl rfl) (aq ar (aq aO (pv 4) ac fun _ _=>rfl) ac fun _ _=>rfl))) aw)
   (ai (ge (nr PySem.F.plainAttrs_list PySem.F.slot_list_append PySem.F.type_list_append dB (pv 4) (a9 (aX (a9 (pv 6) (a9 (af gS hr3 rfl mS kS bS .nil aj (a9 (pv 0) aa)) aa))) aa)))))))
  (ai (ak (pv 4)))),?_⟩
 have hL:(20000:Nat)≤sizeLine:=by decide +kernel
 refine ⟨by show 0≤sizeLine;decide,fun L nL=> ?_⟩
 have s1:=ah (o:= .lst []) nL
 have nLt:=hF.ne nL
 refine ⟨_,rfl,_,rfl,_,_,rfl,rfl,f,c,(m:Int)+1,rfl,hF.same s1,by omega,aW (by omega) (by omega),fun r H1 r0 r1 hF1 kp1=> ?_⟩
 have b1:But f c H H1:=(But.of_same s1).trans (But.of_keep kp1)
 have hL1:H1 L=some (.lst []):=(kp1 L nLt.1 nLt.2).trans ad
 refine ⟨r,rfl,by omega,by omega,?_⟩
 obtain ⟨j,ej⟩:∃j:Nat,r.toNat=j:=⟨_,rfl⟩
 have jm:j≤m:=by omega
 rw [ej]
 refine fz (n:=j) (fun i σ H'=>FeedAt H' f c∧But f c H H'∧∃(ws:List V) (ps:List Pq) (v5 v6:Option V),σ= [some (.ref f),some (.ref nl),some (.int (d:Int)),some (.int (m:Int)),some (.ref L),v5,v6]∧H' L=some (.lst ws)∧TrsAt H' ws (ps.map prT)∧ps.length=i∧∀p∈ps,Dq p)
  ⟨hF1,b1,[],[],none,none,rfl,hL1, .nil,rfl,fun p m=>by cases m⟩ ?_ ?_
 · rintro i σ H2 hi ⟨hF2,b2,ws,ps,v5,v6,rfl,hL2,hT2,hl2,hg2⟩
   have wl:=hT2.len
   rw [yo] at wl
   refine ⟨_,rfl,_,rfl,_,rfl,f,c,nl,d,rfl,hF2,hN.but nf nc b2,nf,nc,hd,fun v t H3 hF3 b3 hv ty dt gt0=> ?_⟩
   have gt:Gp 3 5 (toPl t):=gt0.mono (yl _) (by omega)
   have kd3:=b3.kd hF2 hF3
   have hL3:=b3 L _ nLt.1 nLt.2 hL2
   have hT3:=hT2.mono kd3
   have b03:=b2.trans b3
   refine aV ?_
   dsimp only
   refine c7 (fun σ' H'=>FeedAt H' f c∧But f c H H'∧H' L=some (.lst ws)∧TrsAt H' ws (ps.map prT)∧∃v t,σ'= [some (.ref f),some (.ref nl),some (.int (d:Int)),some (.int (m:Int)),some (.ref L),some (.int (0+(i:Int))),some v]∧TrAt H' v t∧Ty .tm t∧t.depth≤5∧Gp 3 5 (toPl t)) ?_ fun nx hnx=> ?_
   rotate_left
   · refine ⟨_,rfl,by show 0≤sizeLine;decide,fun z nz=> ?_⟩
     have sz:=ah (o:= .lst []) nz
     have nzt:=hF3.ne nz
     refine ⟨L,z,ws,rfl,rfl,sz _ _ hL3,ad,_,rfl,?_⟩
     have hF4:=hF3.same sz
     have b4:=b03.trans (But.of_same sz)
     have hL4:=sz _ _ hL3
     have hT4:=hT3.mono (Kd.of_same sz)
     have hv4:=hv.mono (Kd.of_same sz)
     generalize upd H3 z (.lst [])=H4 at*
     by_cases zn:ws= []
     · rw [zn]
       refine iteF ?_
       refine iteF ?_
       refine bc ?_
       exact hnx _ _ ⟨hF4,b4,hL4,hT4,v,t,rfl,hv4,ty,by omega,gt⟩
     · have z':ws.isEmpty=false:=by simpa using zn
       rw [z']
       refine iteT ?_
       refine ⟨_,rfl,f,c,4,rfl,hF4,by decide,aW (by decide) (by decide),fun r5 H5 _ _ hF5 kp5=> ?_⟩
       have kd5:=(But.of_keep kp5).kd hF4 hF5
       have hL5:=(kp5 L nLt.1 nLt.2).trans hL4
       have hT5:=hT4.mono kd5
       have hv5:=hv4.mono kd5
       have b5:=b4.trans (But.of_keep kp5)
       refine ⟨rfl,_,rfl,?_⟩
       refine ite2 (fun _=> ?_) (fun _=>hnx _ _ ⟨hF5,b5,hL5,hT5,v,t,rfl,hv5,ty,by omega,gt⟩)
       obtain ⟨w0,wr,rfl⟩:=List.exists_cons_of_ne_nil zn
       obtain ⟨t0,et0,ht0⟩:=hT5.get' (i:=0) (v:=w0) rfl
       rw [yL] at et0
       obtain ⟨p0,ep0,rfl⟩:=yR.mp et0
       have g0:=hg2 p0 (yw ep0)
       obtain ⟨r0',x0,y0,rfl,hr0,hx0,hy0⟩:=jj ht0
       refine ⟨_,rfl,L,_,0, .ref r0',rfl,rfl,SqL.of hL5,be (j:=0) rfl,r0',_,0,x0,rfl,rfl,SqT.of hr0,rfl,?_⟩
       exact hnx _ _ ⟨hF5,b5,hL5,hT5,x0,p0.1,rfl,hx0,g0.gq.ty,g0.dep,g0.gp⟩
   rintro σ' H4 ⟨hF4,b4,hL4,hT4,v,t,rfl,hv4,ty,dt,gt⟩
   refine ⟨_,rfl, .inl ⟨rfl,_,SqL.of hL4⟩,_,rfl,_,rfl,f,c,rfl,hF4,fun y H5 q hF5 b5 hy gq sq=> ?_⟩
   have kd5:=b5.kd hF4 hF5
   have hL5:=b5 L _ nLt.1 nLt.2 hL4
   refine ⟨by show 2≤sizeLine;decide,fun p np=> ?_⟩
   have sp:=ah (o:= .tup [v,y]) np
   have hL6:=sp _ _ hL5
   refine ⟨L,ws,_,rfl,rfl,hL6,by omega,?_⟩
   have kd6:=(Kd.of_same sp).trans (Kd.upd (ys:=ws++ [.ref p]) hL6)
   have nLp:p≠L:=fun z=>by rw [z,hL5] at np;cases np
   have bb:=b4.trans (b5.trans (But.of_same sp))
   refine ⟨(hF5.same sp).wr nLt,bb.wr nL,ws++ [.ref p],ps++ [(t,q)],_,_,rfl,ad,?_,by simp [hl2],fun u mu=> ?_⟩
   · rw [zh]
     exact TrsAt.app (.cons (jI ((aF nLp).trans ad) (hv4.mono (kd5.trans kd6)) (hy.mono kd6)) .nil) (hT4.mono (kd5.trans kd6))
   · rcases yx.mp mu with mu|mu
     · exact hg2 u mu
     · rw [yv.mp mu]
       exact ⟨⟨ty,by dsimp only;omega,gq,sq⟩,dt,gt⟩
 · rintro σ H2 ⟨hF2,b2,ws,ps,v5,v6,rfl,hL2,hT2,hl2,hg2⟩
   exact ⟨_,rfl,k L ps H2 nL hF2 b2 ⟨ws,hL2,hT2⟩ (by omega) hg2⟩
end
end K05
namespace Dj
open PySem PySem.Spec PySem.W PyProof.Rows L2 Tre
def RawD (h:Heap) (d:Addr) (es:Array DictEntry) (ep:Nat):Prop:=∃o,h.get? d=some o∧o.ExactDict∧o.data= .dict es ep
theorem RawD.kp {h h':Heap} {d:Addr} {es:Array DictEntry} {ep:Nat} (x:RawD h d es ep) (e:∀o,h.get? d=some o→h'.get? d=some o):RawD h' d es ep:=by
 obtain ⟨o,h1,h2⟩:=x
 exact ⟨o,e o h1,h2⟩
theorem RawD.lt {h:Heap} {d:Addr} {es:Array DictEntry} {ep:Nat} (x:RawD h d es ep):d < h.objs.size:=by
 obtain ⟨o,h1,_⟩:=x
 exact Heap.lt_size h1
section
variable {prog:Program} {w:World} {A:Around} {E:Value→Shared→Prop} {s:Shared} {d it:Addr} {es:Array DictEntry} {ep:Nat}
theorem RawD.ty (x:RawD s.heap d es ep):s.TypeIs (.ref d) "dict":=by
 obtain ⟨o,h1,h2,_⟩:=x
 exact ⟨o,h1,h2.1⟩
theorem qr {Q:Value→Shared→Prop} (hd:(d==sysModules)=false) (hm:RawD s.heap d es ep)
 (hQ:Q (.ref s.heap.objs.size) {s with heap:=s.heap.push {cls:= .type "dict_keyiterator",data:= .fields #[.ref d, .int 0 0, .int es.size 0, .int ep 0]}}):wpAny (model prog w) A (pyIter (.ref d)) Q E s:=by
 have hT:=hm.ty
 obtain ⟨o,ho,hc,hdat⟩:=hm
 refine wpAny_pyIter_slot hT F.slot_dict_iter (wpAny_call_entry F.slot_dict_iter hT F.entry_dict_iter (A:=A) ?_ (F.args_dict_iter_1 _))
 unfold Builtin.«dict.__iter__»;refine wpAny_bind ?_;unfold Builtin.Dict.dictSlotNone;refine wpAny_bind (wpAny_notOrdered_dict hT ?_)
 show wpAny _ _ (pure (Value.ref d)) _ _ s;refine wpAny_pure ?_;show wpAny _ _ (Builtin.Dict.showsAll d >>=_) _ _ s
 unfold Builtin.Dict.showsAll;rw [if_neg (by rw [hd];exact yI)];refine wpAny_bind (wpAny_pure ?_)
 refine wpAny_bind (wpAny_dictEntries ho hdat (wpAny_bind (wpAny_dictEpoch ho hdat ?_)))
 refine wpAny_bind (wpAny_newObj_type (wpAny_pure ⟨_,rfl,"dict_keyiterator",_,⟨_,Heap.get?_push_size _ rfl,rfl⟩,F.slot_dict_keyiterator_next.lookup,by simpa [rawInt] using hQ⟩))
theorem qq {i:Nat} {Q:Option Value→Shared→Prop} (hit:s.heap.IsKeyIter it d i es.size ep) (hm:RawD s.heap d es ep) (hi:i < es.size)
 (hQ:∀h',h'.IsKeyIter it d (i+1) es.size ep→Heap.SameBut it s.heap h'→Q (some es[i].key) {s with heap:=h'}):wpAny (model prog w) A (pyNext (.ref it)) Q E s:=by
 obtain ⟨o,ho,hc,hd⟩:=id hit;obtain ⟨od,hod,hcd,hdd⟩:=id hm;have hown:Builtin.Dict_items.ownsTuple "dict_keyiterator"=false:=by decide
 unfold pyNext;refine wpAny_bind (wpAny_attempt (wpAny_callSpecial?_slot (name:=Str.ofString "__next__") hit.typeIs F.slot_dict_keyiterator_next (wpAny_call_entry F.slot_dict_keyiterator_next hit.typeIs F.entry_dict_keyiterator_next ?_ (F.args_dict_keyiterator_next_1 _))))
 refine wpAny_bind (wpAny_pure (wpAny_bind (wpAny_bind ?_)))
 first|refine wpAny_bind (wpAny_typeNameOfWhole_keyiter hit.typeIs (wpAny_pure (wpAny_bind (wpAny_fieldsOf ho hd ?_))))|refine wpAny_bind (wpAny_typeNameOf_keyiter hit.typeIs (wpAny_pure (wpAny_bind (wpAny_fieldsOf ho hd ?_))))
 simp only [hown,yA,if_false];show wpAny _ _ (if (Value.ref d==Value.none)=true then _ else _) _ _ s
 rw [if_neg (show¬((Value.ref d==Value.none)=true) from yI)];refine wpAny_bind (wpAny_pure (wpAny_bind (wpAny_dictEntries hod hdd ?_)))
 rw [if_neg (by simp)];refine wpAny_bind (wpAny_pure (wpAny_bind (wpAny_dictEpoch hod hdd ?_)));rw [if_neg (by simp)];refine wpAny_pure ?_
 simp only [show¬((i:Int) < 0) from by omega,if_false,yT,yM hi];refine wpAny_bind ?_
 first|refine wpAny_bind (wpAny_typeNameOfWhole_keyiter hit.typeIs (wpAny_pure (wpAny_bind (wpAny_isOneOf_keyiter hit.typeIs ?_))))|refine wpAny_bind (wpAny_typeNameOf_keyiter hit.typeIs (wpAny_pure (wpAny_bind (wpAny_isOneOf_keyiter hit.typeIs ?_))))
 show wpAny _ _ (setField (.ref it) 1 (rawInt ((i:Int)+1)) >>=_) _ _ s;refine wpAny_bind (wpAny_setField ho hd (by simp) ?_)
 have hit':(s.heap.update it (Obj.mapFields (·.setIfInBounds 1 (rawInt ((i:Int)+1))))).IsKeyIter it d (i+1) es.size ep:=⟨_,Heap.get?_update_self _ ho (Obj.isFreed_of_fields (Obj.data_mapFields hd _)),(Obj.cls_mapFields ..).trans hc,by rw [Obj.data_mapFields hd];simp [rawInt]⟩
 refine wpAny_bind (wpAny_holding (wpAny_bind (wpAny_isOneOf_keyiter (s:= {s with heap:=s.heap.update it (Obj.mapFields (·.setIfInBounds 1 (rawInt ((i:Int)+1))))}) hit'.typeIs ?_)))
 show wpAny _ _ (pure es[i].key) _ _ _;exact wpAny_pure (wpAny_pure ⟨_,rfl,wpAny_pure (hQ _ hit' (Heap.SameBut.update ..))⟩)
theorem tD {i:Nat} {Q:Option Value→Shared→Prop} (hh:A.handled=none) (hit:s.heap.IsKeyIter it d i es.size ep) (hm:RawD s.heap d es ep) (hi:es.size≤i)
 (hQ:∀h',Heap.ExtBut it s.heap h'→Q none {s with heap:=h'}):wpAny (model prog w) A (pyNext (.ref it)) Q E s:=by
 obtain ⟨o,ho,hc,hd⟩:=id hit;obtain ⟨od,hod,hcd,hdd⟩:=id hm;have hown:Builtin.Dict_items.ownsTuple "dict_keyiterator"=false:=by decide
 unfold pyNext;refine wpAny_bind (wpAny_attempt (wpAny_callSpecial?_slot (name:=Str.ofString "__next__") hit.typeIs F.slot_dict_keyiterator_next (wpAny_call_entry F.slot_dict_keyiterator_next hit.typeIs F.entry_dict_keyiterator_next ?_ (F.args_dict_keyiterator_next_1 _))))
 refine wpAny_bind (wpAny_pure (wpAny_bind (wpAny_bind ?_)))
 first|refine wpAny_bind (wpAny_typeNameOfWhole_keyiter hit.typeIs (wpAny_pure (wpAny_bind (wpAny_fieldsOf ho hd ?_))))|refine wpAny_bind (wpAny_typeNameOf_keyiter hit.typeIs (wpAny_pure (wpAny_bind (wpAny_fieldsOf ho hd ?_))))
 simp only [hown,yA,if_false];show wpAny _ _ (if (Value.ref d==Value.none)=true then _ else _) _ _ s
 rw [if_neg (show¬((Value.ref d==Value.none)=true) from yI)];refine wpAny_bind (wpAny_pure (wpAny_bind (wpAny_dictEntries hod hdd ?_)))
 rw [if_neg (by simp)];refine wpAny_bind (wpAny_pure (wpAny_bind (wpAny_dictEpoch hod hdd ?_)));rw [if_neg (by simp)];refine wpAny_pure ?_
 simp only [show¬((i:Int) < 0) from by omega,if_false,yT,Array.getElem?_eq_none hi];refine wpAny_bind ?_
 first|refine wpAny_bind (wpAny_typeNameOfWhole_keyiter hit.typeIs (wpAny_pure ?_))|refine wpAny_bind (wpAny_typeNameOf_keyiter hit.typeIs (wpAny_pure (A:=A.in1) ?_))
 show wpAny _ _ (setField (.ref it) 0 .none >>=_) _ _ s;refine wpAny_bind (wpAny_setField ho hd (by simp) ?_)
 show wpAny _ _ (newExc (.type "StopIteration") [] >>=_) _ _ _;refine wpAny_bind ?_;simp only [newExc,newTuple]
 refine wpAny_bind (wpAny_newObj_type (wpAny_bind (m:=firstArgMember _ _) (wpAny_of_eq (a:=Value.none) (by first|rfl|(simp only [firstArgMember];rfl)) (wpAny_newObj_type ?_ (by size_fits)))) (by size_fits))
 simp only [raiseNew];refine wpAny_bind (wpAny_handled ?_);rw [show A.in1.handled=none from hh]
 refine wpAny_bind (wpAny_pure (wpAny_throw ?_));refine wpAny_bind (wpAny_isInstance (T:="StopIteration") (b:=true) ⟨_,Heap.get?_push_size _ rfl,rfl⟩ isSubtype_stop ?_);exact wpAny_pure (hQ _ (((Heap.SameBut.update ..).extBut.push _).push _))
theorem oU (hh:A.handled=none) (I:Addr) (hne:d≠I):Walks prog w A I [I,d] [I] es.size (fun i v=>∃e,es[i]?=some e∧v=e.key) (fun i h=>h.IsKeyIter I d i es.size ep∧RawD h d es ep) where
 sub:=fun b hb=>by simp at hb;simp [hb]
 frame:=fun _ _ _ st hk=>⟨st.1.at fun o e=>hk I (by simp) o e,st.2.kp fun o e=>hk d (by simp) o e⟩
 item:=fun i s Q E hi st hQ=>by
  refine qq st.1 st.2 hi fun h' hit' hs'=> ?_
  exact hQ _ h' s.toks ⟨es[i],by simp [hi],rfl⟩ ⟨hit',st.2.kp fun o e=>hs'.extBut d o hne e⟩ fun b o hb e=>hs'.extBut b o (fun h=>hb (by simp [h])) e
 done:=fun s Q E st hQ=>tD hh st.1 st.2 (yl _) fun h' he'=>hQ h' s.toks fun b o hb e=>he' b o (fun h=>hb (by simp [h])) e
 self:=fun _ _ _ _ st hQ=>wpAny_pyIter_keyiter st.1 hQ
theorem tw (lo:(d==sysModules)=false):KdlSrc prog w "dict" d d es.size (fun i v=>∃e,es[i]?=some e∧v=e.key) (fun h=>RawD h d es ep) where
 type:=fun _ hm=>hm.ty
 there:=fun _ hm=>⟨hm.lt,hm.lt⟩
 keep:=fun _ _ hm hk=>hm.kp fun o e=>hk d (.inl rfl) o e
 notList:=by decide
 notTuple:=by decide
 hint:=fun _ _ _ _ hm hq=>kdl_hint_dict hm.ty hq
 iter:=fun _ _ hh hm=>⟨_,_,(fun _ _ hq=>qr lo hm hq),oU hh _ (yE hm.lt),⟨⟨_,Heap.get?_push_size _ rfl,rfl,rfl⟩,hm.kp fun o e=>Heap.get?_push_of_some _ e⟩⟩
end
open PySem PySem.Spec PySem.W PyProof.Rows L2 Tre Srt
section
variable {prog:Program} {w:World} {A:Around} {E:Value→Shared→Prop} {s:Shared} {T:String} {r d:Addr} {n:Nat} {P:Nat→Value→Prop} {OK:Heap→Prop}
theorem lj {Q:List Value→Shared→Prop} (K:KdlSrc prog w T r d n P OK) (hh:A.handled=none) (hok:OK s.heap) (hn:n≤sizeLine)
 (hQ:∀h' tk (acc:Array Value),(∀b o,s.heap.get? b=some o→h'.get? b=some o)→s.heap.objs.size < h'.objs.size→ItemsOf P acc n→Q acc.toList {s with heap:=h',toks:=tk}):wpAny (model prog w) A (collect (.ref r)) Q E s:=by
 have hlt:=K.there _ hok
 unfold collect
 refine wpAny_bind (wpAny_runValue (codeAny_builtin PySem.F.entry_proto_collect ?_))
 rw [Around.under_plainId PySem.F.plain_proto_collect _]
 show wpAny _ A.in1 (newList [] >>=fun l=>again (.builtin "list.__iadd__" ⟨[l, .ref r],[]⟩)) _ _ s
 refine wpAny_bind (wpAny_newObj_type (wpAny_pure ⟨plainId_quiet PySem.F.plain_list_iadd _,codeAny_builtin PySem.F.entry_list_iadd ?_⟩))
 rw [Around.under_plainId PySem.F.plain_list_iadd _]
 have hS:(s.heap.push {cls:= .type "list",data:= .seq ([]:List Value).toArray}).get? s.heap.objs.size=some {cls:= .type "list",data:= .seq ([]:List Value).toArray}:=Heap.get?_push_size _ rfl
 show wpAny _ A.in1 (Builtin.List.listExtendWith (.ref s.heap.objs.size) (.ref r) (.ref s.heap.objs.size)) _ _ _
 refine kdl_extend (R:=fun r' s'=>match r' with
  | .ok (.ret v)=>wpAny (model prog w) A (match v with
   | .ref a=>do match (←load a).data with
    | .seq xs _=>pure xs.toList
    |_=>unsupported "internal:collect"
   |_=>unsupported "internal:collect") Q E s'
  | .ok _=>False
  | .error e=>E e s') (s:= {s with heap:=s.heap.push {cls:= .type "list",data:= .seq ([]:List Value).toArray}}) K hh (K.keep _ _ hok fun b _ o e=>Heap.get?_push_of_some _ e) _ (Nat.ne_of_gt hlt.1) (Nat.ne_of_gt hlt.2) _ _ hS (fun h' tk acc' c' hk hS' hacc=> ?_) hn
 show wpAny _ A (load s.heap.objs.size >>=_) _ _ _
 refine wpAny_bind (wpAny_load hS' (wpAny_pure (hQ h' tk acc' (fun b o e=>hk b o (yE (Heap.lt_size e)) (Heap.get?_push_of_some _ e)) (Heap.lt_size hS') hacc)))
end
section
variable {prog:Program} {w:World} {A:Around} {E:Value→Shared→Prop} {s:Shared} {lt:Nat→Nat→Bool} {κ:SortKind}
theorem oP {l:Addr} {vs:List Value} {Q:Value→Shared→Prop} (O:Ord lt) (h64:vs.length < 64)
 (hcol:∀Q':List Value→Shared→Prop,(∀h' tk,(∀b o,s.heap.get? b=some o→h'.get? b=some o)→s.heap.objs.size < h'.objs.size→Q' vs {s with heap:=h',toks:=tk})→wpAny (model prog w) A.in1 (collect (.ref l)) Q' E s)
 (hkind:2≤vs.length→∀h' tk,(∀b o,s.heap.get? b=some o→h'.get? b=some o)→∀(E':Value→Shared→Prop) (R:SortKind→Shared→Prop),R κ {s with heap:=h',toks:=tk}→wpAny (model prog w) A.in1.in1 (keyKind' vs.toArray) R E' {s with heap:=h',toks:=tk})
 (hask:∀h' tk,(∀b o,s.heap.get? b=some o→h'.get? b=some o)→∀i j (R:Bool→Shared→Prop),i < vs.length→j < vs.length→R (lt i j) {s with heap:=h',toks:=tk}→kas_ask prog w A.in1.in1 κ vs i j R {s with heap:=h',toks:=tk})
 (h:∀p:Array Nat,Pm vs.length p→Up lt p vs.length→∀h' tk D e,(∀b o,s.heap.get? b=some o→h'.get? b=some o)→s.heap.objs.size≤D→h'.get? D=some (seqObj "list" (List.toArray (p.toList.map fun i=>vs.getD i Value.none)) e)→Q (.ref D) {s with heap:=h',toks:=tk}):
 wpAny (model prog w) A (call (.builtin "sorted") [.ref l]) Q E s:=by
 refine Calls.call_function_entry kind_sorted plain_sorted entry_sorted (args_sorted1 _) ?_
 unfold Builtin.«sorted»
 refine wpAny_bind (m:=checkCount "sorted" 1 1 _) (wpAny_pure (wpAny_bind (hcol _ fun h1 tk k1 sz=> ?_)))
 refine wpAny_bind (wpAny_newList (s:= {s with heap:=h1,toks:=tk}) ?_ (by rw [sizeLine_eq];omega))
 have hoL:(h1.push (seqObj "list" vs.toArray 0)).get? h1.objs.size=some (seqObj "list" vs.toArray 0):=Heap.get?_push_size _ rfl
 have keep:∀b o,s.heap.get? b=some o→(h1.push (seqObj "list" vs.toArray 0)).get? b=some o∧b≠h1.objs.size:=fun b o q=>⟨Heap.get?_push_of_some _ (k1 b o q),yE (Heap.lt_size (k1 b o q))⟩
 show wpAny _ _ _ _ _ {s with heap:=h1.push (seqObj "list" vs.toArray 0),toks:=tk}
 refine wpAny_bind (wpAny_holding (wpAny_call_entry slot_list_sort ⟨_,hoL,rfl⟩ entry_list_sort (dR (s:= {s with heap:=h1.push (seqObj "list" vs.toArray 0),toks:=tk}) (lt:=lt) (κ:=κ) O hoL h64 (fun h2 h' st R hR=>hkind h2 h' tk (fun b o e=>st b o (keep b o e).2 (keep b o e).1) _ R hR)
  (fun h' st i j R hi hj hR=>hask h' tk (fun b o e=>st b o (keep b o e).2 (keep b o e).1) i j R hi hj hR) fun p a1 a2=>⟨_,rfl,?_⟩) (args_list_sort _)))
 obtain ⟨e,he⟩:=sortedHeap_at (out:=List.toArray (p.toList.map fun i=>vs.getD i Value.none)) hoL
 refine wpAny_pure ⟨_,rfl,h p a1 a2 _ tk _ e (fun b o q=> ?_) (Nat.le_of_lt sz) he⟩
 rw [sortedHeap_old (keep b o q).2 (Heap.lt_size (keep b o q).1)]
 exact (keep b o q).1
end
theorem nO {prog:Program} {w:World} {A:Around} {s:Shared} {fin:Bool} {Q:Bool→Shared→Prop}:∀ {as bs:List Value} {q:List (Bool×Bool)} {i:Nat},0 < i→cz A s as bs q→Q (lexV fin q) s→KatLex prog w A true fin Q (as.zip bs) i s
 | [],_,q,i,_,h,hq=>by
  unfold cz at h
  subst h
  rw [List.zip_nil_left]
  exact kat_nil hq
 |_::_,[],q,i,_,h,hq=>by
  unfold cz at h
  subst h
  rw [List.zip_nil_right]
  exact kat_nil hq
 |a::as,b::bs,[],i,_,h,hq=>h.elim
 |a::as,b::bs,(e,l)::q,i,h0,h,hq=>by
  obtain ⟨h1,h2,h3⟩:=h
  rw [zj]
  refine kat_cons (h1 prog w _ _ ?_)
  cases e with
  |true=>exact kat_yes (nO (by omega) (h3 rfl) hq)
  |false=>
   refine kat_no ?_
   have e0:(true&&i==0)=false:=by
    cases i with
    |zero=>omega
    |succ i=>rfl
   rw [e0]
   exact kat_one a b (h2 rfl prog w _ _ hq)
theorem nP {prog:Program} {w:World} {A:Around} {s:Shared} {fin:Bool} {Q:Bool→Shared→Prop} {x y:Str} {t u:Tok} {as bs:List Value} {q:List (Bool×Bool)} (h:cz A s as bs q)
 (hq:Q (lexV fin ((x==y,decide (x.cps.toList < y.cps.toList))::q)) s):KatLex prog w A true fin Q ((Value.str x t::as).zip (Value.str y u::bs)) 0 s:=by
 rw [zj]
 refine kat_cons (SeqAt.EqAt.str_str x t y u prog w _ _ ?_)
 cases e:(x==y) with
 |true=>
  rw [e] at hq
  exact kat_yes (nO (by decide) h hq)
 |false=>
  rw [e] at hq
  refine kat_no ?_
  exact oneLt_str hq
def Hs (t:Tr):Prop:=∃x r,t= .tup (.str x::r)
section
variable {X:Cx} {pins:List (Addr×Obj)} {σ:L2.St} {H:Hp} {s:Shared}
theorem jA (I:Inv X pins σ H s):∀ {vs:List V} {ts:List Tr} {as:List Value},TrsAt H vs ts→Vals vs as→(∀t∈ts,Hs t)→∃fs,KatTups s.heap as fs∧fs.length=as.length∧∀v∈fs,∃(x:Str) (t:Tok),v= .str x t
 |vs,[],as,h,r,_=>by
  unfold TrsAt at h
  subst h
  cases r
  exact ⟨[], .nil,rfl,fun v m=>by cases m⟩
 |vs,t::ts,as,h,r,hh=>by
  obtain ⟨v,vr,rfl,h1,h2⟩:=h.inv
  cases r with
  |cons r1 r2=>
   obtain ⟨fs,f1,f2,f3⟩:=jA I h2 r2 fun u m=>hh u (ym _ m)
   obtain ⟨x,rr,rfl⟩:=hh t yn
   unfold TrAt at h1
   obtain ⟨a,ws,rfl,g,k⟩:=h1
   cases r1
   obtain ⟨y,yr,rfl,k1,k2⟩:=k.inv
   unfold TrAt at k1
   subst k1
   obtain ⟨bs,o,n,q1,ho,hc,hd⟩:=eH I g
   cases q1 with
   |cons q1 q2=>
    obtain ⟨tk,rfl⟩:=q1
    refine ⟨_,KatTups.cons ho hc hd rfl f1,by simp [f2],fun v m=> ?_⟩
    rcases yk.mp m with e|m
    · exact ⟨x,tk,e⟩
    · exact f3 v m
def jW (P:Program) (w:World) (K:PySem.W.Frag):List V→Hp→VK→Prop:=fun xs H Q=>∃(a:Addr) (kvs:List Ent) (ts:List Tr),xs= [.ref a]∧DJ P w K H a kvs∧TrsAt H (kvs.map fun e=>V.ref e.2.1) ts∧ts.length < 64∧(∀t∈ts,Hs t∧t.pure∧t.depth≤40)∧(∀t∈ts,∀u∈ts,Cm t u)∧
 ∀(D:Addr) (ws:List V) (us:List Tr),H D=none→us.Perm ts→TrsAt H ws us→(∀(i j:Nat) (t u:Tr),i≤j→us[i]?=some t→us[j]?=some u→ltT u t=false)→Q (.ref D) (upd H D (.lst ws))
theorem tq {kvs:List Ent} {xs:List (List Tk.KT×Addr×Value)} (r:RE kvs xs):(kvs.map fun e=>V.ref e.2.1)=xs.map fun x=>V.ref x.2.1:=by
 induction r with
 |nil=>rfl
 |cons h _ ih=>rw [yD,yD,ih,h.2.1]
theorem oB (xs:List (List Tk.KT×Addr×Value)):Vals (xs.map fun x=>V.ref x.2.1) (xs.map fun x=>Value.ref x.2.1):=by
 induction xs with
 |nil=>exact .nil
 |cons x r ih=>exact .cons rfl ih
theorem jH (hc:X.calm=true) (hu:X.A.units+60 < cLine):ci X (.builtin "sorted") (jW X.prog X.w X.K):=by
 intro pins s σ H xs us Q I r h
 obtain ⟨a,kvs,ts,rfl,dj,hT,hlen,hts,hcm,q⟩:=h
 obtain ⟨u,rfl,ru⟩:=dg r
 cases ru
 obtain ⟨z,hd,ws,rel,dd⟩:=lh I.hok I.kIn dj
 obtain ⟨o,es,ep,ho,hx,hdat,hes,_⟩:=dd
 rw [tq rel] at hT
 obtain ⟨as,eas⟩:∃as,as=ws.map fun x=>Value.ref x.2.1:=⟨_,rfl⟩
 obtain ⟨vs,evs⟩:∃vs,vs=ws.map fun x=>V.ref x.2.1:=⟨_,rfl⟩
 have rv:Vals vs as:=by rw [eas,evs];exact oB ws
 rw [←evs] at hT
 have l1:=hT.len
 have l2:=rv.length
 have wl:ws.length=vs.length:=by rw [evs,yo]
 have esz:es.size=as.length:=by rw [←yy,hes,yo,eas,yo]
 have O:Srt.Ord fun i j=>ltT (ts.getD i .non) (ts.getD j .non):=⟨fun a b h=>eQ h,fun a b c h1 h2=>r9 h1 h2⟩
 have at_:∀i,i < as.length→∃t v a,ts.getD i .non=t∧t∈ts∧TrAt H v t∧RelV v a∧as.getD i Value.none=a:=fun i hi=>by
  have hi':i < ts.length:=by omega
  obtain ⟨v,e1,e2⟩:=hT.get (i:=i) (t:=ts[i]) (yj hi')
  obtain ⟨a,e3,e4⟩:=rv.get e1
  exact ⟨ts[i],v,a,by rw [yS,yj hi'];rfl,zk hi',e2,e4,by rw [yS,e3];rfl⟩
 refine oP (κ:=tuples' true) (vs:=as) O (by omega) (fun Q' hQ'=> ?_) (fun h2 h' tk kp E' R hR=> ?_) (fun h' tk kp i j R hi hj hR=> ?_) fun p hp hup h' tk D e kp sz he=> ?_
 · have h64:(64:Nat)≤sizeLine:=by decide +kernel
   refine lj (A:=X.A.in1) (tw (es:=es) (ep:=ep) hd) (I.ok.hd hc) ⟨o,ho,hx,hdat⟩ (by omega) fun h' tk acc k1 sz hacc=> ?_
   have e:acc.toList=as:=by
    refine zx fun j=> ?_
    by_cases hj:j < es.size
    · have hj':j < acc.size:=by rw [hacc.1];exact hj
      obtain ⟨en,e1,e2⟩:=hacc.2 j acc[j] (by simp [hj'])
      have e3:es.toList[j]?=some en:=by rw [yK];exact e1
      rw [hes,yL] at e3
      obtain ⟨x,ex,rfl⟩:=yR.mp e3
      rw [eas,yL,ex,yK,yM hj',e2]
      rfl
    · rw [yQ (by rw [yy,hacc.1];omega),yQ (by omega)]
   rw [e]
   exact hQ' h' tk k1 sz
 · have I':Inv X pins σ H {s with heap:=h',toks:=tk}:=I.kept (t':=tk) kp
   obtain ⟨fs,k1,k2,k3⟩:=jA I' hT rv fun t m=>(hts t m).1
   refine kat_kind (T:=Value.type "str") k1 (by omega) (fun v m=> ?_) (by decide +kernel) ?_
   · obtain ⟨x,t,rfl⟩:=k3 v m
     exact .now
   · rw [show (Value.type "str" !=Value.type "tuple")=true by decide +kernel]
     exact hR
 · have I':Inv X pins σ H {s with heap:=h',toks:=tk}:=I.kept (t':=tk) kp
   obtain ⟨t,v,a,et,mt,ht,ra,ea⟩:=at_ i hi
   obtain ⟨u,v',b,eu,mu,hu',rb,eb⟩:=at_ j hj
   have hc':=hcm t mt u mu
   obtain ⟨⟨x1,r1,rfl⟩,p1,d1⟩:=hts t mt
   obtain ⟨⟨x2,r2,rfl⟩,p2,d2⟩:=hts u mu
   unfold TrAt at ht hu'
   obtain ⟨x0,vs0,rfl,g0,g1⟩:=ht
   obtain ⟨y0,ws0,rfl,g2,g3⟩:=hu'
   cases ra
   cases rb
   obtain ⟨as0,o,n,q3,ho,hcl,hd'⟩:=eH I' g0
   obtain ⟨bs0,o',n',q4,ho',hcl',hd2⟩:=eH I' g2
   have z0:=g1.len
   have z1:=g3.len
   have z2:=q3.length
   have z3:=q4.length
   obtain ⟨y1,yr1,rfl,w1,w2⟩:=g1.inv
   obtain ⟨y2,yr2,rfl,w3,w4⟩:=g3.inv
   unfold TrAt at w1 w3
   subst w1 w3
   cases q3 with
   |cons q3 q3'=>
    cases q4 with
    |cons q4 q4'=>
     obtain ⟨tk1,rfl⟩:=q3
     obtain ⟨tk2,rfl⟩:=q4
     unfold Tr.depth at d1
     unfold Trs.depth at d1
     unfold Tr.pure at p1
     unfold Trs.pure at p1
     unfold kas_ask
     rw [ea,eb]
     refine kat_lt (b:=true) ho hd' ho' hd2 ?_
     rw [zq,zq]
     have hu1:X.A.in1.in1.units+40+1 < cLine:=by show X.A.units+1+1+40+1 < cLine;omega
     have e:∀q,lexV (decide ((Value.str x1 tk1::_).toArray.size < (Value.str x2 tk2::_).toArray.size)) ((x1==x2,decide (x1.cps.toList < x2.cps.toList))::q)=lexV (decide ((Tr.str x1::r1).length < (Tr.str x2::r2).length)) ((x1==x2,decide (x1.cps.toList < x2.cps.toList))::q):=fun q=>by
      rw [yp,yp,←z2,←z3,z0,z1]
     by_cases ex:(x1==x2)=true
     · unfold Cm at hc'
       unfold Cms at hc'
       have hc2:Cms r1 r2:=by
        rcases hc' with ⟨_,c⟩|⟨n,_⟩
        · exact c
        · unfold Tre.eqT at n
          rw [ex] at n
          cases n
       have hx':=jv (A:=X.A.in1.in1) I' hu1 (fun d pp cc a1 a2 b1 b2=>j4 I' 40 d pp cc a1 a2 b1 b2 hu1) (by omega) (.inl p1.2) hc2 w2 w4 q3' q4'
       refine nP hx' ?_
       rw [e]
       have e2:lexV (decide ((Tr.str x1::r1).length < (Tr.str x2::r2).length)) ((x1==x2,decide (x1.cps.toList < x2.cps.toList))::qs r1 r2)=ltT (ts.getD i .non) (ts.getD j .non):=by
        rw [et,eu]
        refine ba ?_
        rw [ltT_iff]
        have el:decide ((Tr.str x1::r1).length < (Tr.str x2::r2).length)=decide (r1.length < r2.length):=by simp
        have e4:=(eK x1 x2).mp ex
        simp only [lexV,ex,if_true,el,gh,Tre.code,Tre.codes,LtC,LtCs,e4]
        constructor
        · intro h;exact .inr ⟨trivial,h⟩
        · rintro (h|h)
          · exact absurd h (List.lt_irrefl _)
          · exact h.2
       rw [e2]
       exact hR
     · have exf:(x1==x2)=false:=by simpa using ex
       rw [zj]
       refine kat_cons (SeqAt.EqAt.str_str x1 tk1 x2 tk2 X.prog X.w _ _ ?_)
       rw [exf]
       refine kat_no ?_
       refine oneLt_str ?_
       have e2:decide (x1.cps.toList < x2.cps.toList)=ltT (ts.getD i .non) (ts.getD j .non):=by
        rw [et,eu]
        refine ba ?_
        rw [ltT_iff,decide_eq_true_iff]
        have ne:x1.cps.toList≠x2.cps.toList:=fun z=>ex ((eK x1 x2).mpr z)
        simp only [Tre.code,Tre.codes,LtC,LtCs,Co.str.injEq]
        constructor
        · intro h;exact .inl h
        · rintro (h|h)
          · exact h
          · exact absurd h.1 ne
       rw [e2]
       exact hR
 · have hin:∀i∈p.toList,i < ts.length:=fun i m=>by
    have:=yY.mp (List.Perm.mem_iff hp |>.mp m)
    omega
   refine ⟨.ref D,upd H D (.lst (p.toList.map fun i=>vs.getD i .non)),I.laid (t':=tk) kp sz ?_,rfl,?_⟩
   · refine ⟨?_,p.toList.map fun i=>as.getD i Value.none,e,Vals.map rv fun i m=>by have:=hin i m;omega,he⟩
     rw [yo,yy,hp.size]
     have:(64:Nat)≤sizeLine:=by decide +kernel
     omega
   · refine q _ _ (p.toList.map fun i=>ts.getD i .non) (I.hok.fresh sz) ?_ (TrsAt.map hT hin) fun i j t u hij e1 e2=> ?_
     · have:=List.Perm.map (fun i=>ts.getD i Tr.non) hp
       rw [show as.length=ts.length by omega,dy] at this
       exact this
     · rw [yL] at e1 e2
       obtain ⟨a,ea,rfl⟩:=yR.mp e1
       obtain ⟨b,eb,rfl⟩:=yR.mp e2
       have hj:j < as.length:=by
        have:=(yF.mp eb).1
        rw [yy,hp.size] at this
        exact this
       have:=hup i j hij hj
       rw [cC,cC,←yK,←yK,ea,eb] at this
       exact this
end
end Dj
namespace Su
open PySem L2 Tre Mth Wd
theorem Can.key {ps us:List Pq} (h:Can ps us) {p:Pq} (m:p∈us):∃q∈ps,q.1=p.1:=by
 refine Classical.byContradiction fun no=> ?_
 have e:=gv h.asc m
 rw [h.eq,dh fun q mq ez=>no ⟨q,mq,ez⟩] at e
 exact (h.sh p m).2 ((qm (h.sh p m).1).mp e.symm)
noncomputable def vl (W:Wld) (t:Tr):Rat:=rv (valT W t)
end Su
namespace Dj
open PySem PySem.Spec PyProof.Rows L2 Tre Wd Su
noncomputable def uT (P:Program) (w:World) (K:PySem.W.Frag) (td ty:TE):TE:=fun σ H Q=>td σ H fun x H1=>ty σ H1 fun y H2=>∃a b k kvs v,x= .ref a∧y= .ref b∧DJ P w K H2 a kvs∧KeyAt K H2 k b∧valJ kvs k=some v∧Q v H2
section
variable {X:Cx} {pos:Pos} {o i:Expr} {td ty:TE} {P:Program} {w:World} {K:PySem.W.Frag}
theorem tN (hu:X.A.units+30 < cLine) (ho:PE X o td) (hi:PE X i ty) (hs:NoSl i):PE X (.Subscript o i pos) (uT X.prog X.w X.K td ty):=by
 intro pins s σ H Q I h
 refine t9 PySem.F.slot_dict_getitem.lookup hs (thn (ho pins s σ H _ I h) fun u s1 ⟨x,H1,I1,rx,q1⟩=>thn (hi pins s1 σ H1 _ I1 q1) fun iv s2 ⟨y,H2,I2,ry,a,b,k,kvs,v,ex,ey,d,kb,e,q2⟩=> ?_)
 subst ex ey
 obtain rfl:u=Value.ref a:=rx
 obtain rfl:iv=Value.ref b:=ry
 obtain ⟨z,hd,xs,rel,dd⟩:=lh I2.hok I2.kIn d
 have rr:=rel.val k
 rw [e] at rr
 cases ea:atKey xs k with
 |none=>rw [ea] at rr;exact rr.elim
 |some p=>
  rw [ea] at rr
  exact ⟨dd.typeIs,wpAny_getItem_heap (by show X.A.units+1+20 < cLine;omega) (kb.is I2.hok I2.kIn) dd ea ⟨v,H2,I2.tok _,rr,q2⟩⟩
theorem qL (hP:X.prog=P) (hw:X.w=w) (hK:X.K=K) (hu:X.A.units+30 < cLine) (ho:PE X o td) (hi:PE X i ty) (hs:NoSl i):PE X (.Subscript o i pos) (uT P w K td ty):=by
 subst hP hw hK
 exact tN hu ho hi hs
theorem mJ (hP:X.prog=P) (hw:X.w=w) (hK:X.K=K) (hc:X.calm=true) (hu:X.A.units+60 < cLine):ci X (.builtin "sorted") (jW P w K):=by
 subst hP hw hK
 exact jH hc hu
end
mutual
noncomputable def ktT:Tr→Tk.KT
 | .int i=> .lf (.inl i)
 | .str x=> .lf (.inr x)
 | .tup ts=> .tp (ktTs ts)
 |_=> .tp []
noncomputable def ktTs:List Tr→List Tk.KT
 | []=> []
 |t::ts=>ktT t::ktTs ts
end
noncomputable def ktL:Tr→List Tk.KT
 | .tup ts=>ktTs ts
 |_=> []
mutual
def Kp:Tr→Prop
 | .int _=>True
 | .str _=>True
 | .tup ts=>Kps ts
 |_=>False
def Kps:List Tr→Prop
 | []=>True
 |t::ts=>Kp t∧Kps ts
end
theorem nK {ts:List Tr} (h:∀t∈ts,Kp t):Kps ts:=by
 induction ts with
 |nil=>trivial
 |cons t ts ih=>exact ⟨h t yn,ih fun u m=>h u (ym _ m)⟩
theorem gB {t:Tr} (h:Ty .tm t):Kp t:=by
 generalize e:So.tm=k at h
 induction h with
 |nm x=>simp only [Kp,Kps,and_self]
 |ap x ts _ _ ih=>simp only [Kp,Kps,and_true,true_and];exact nK fun t m=>ih t m e
 |fr=>cases e
 |pr=>cases e
 |fl=>cases e
 |mo=>cases e
 |li=>cases e
 |no=>cases e
 |bo=>cases e
 |ei=>cases e
 |lt=>cases e
mutual
theorem rm:∀ {t u:Tr},Kp t→Kp u→ktT t=ktT u→t=u
 | .int i, .int j,_,_,e=>by simp only [ktT,Tk.KT.lf.injEq,Sum.inl.injEq] at e;rw [e]
 | .int i, .str y,_,_,e=>by simp [ktT] at e
 | .int i, .tup us,_,_,e=>by simp [ktT] at e
 | .str x, .int j,_,_,e=>by simp [ktT] at e
 | .str x, .str y,_,_,e=>by simp only [ktT,Tk.KT.lf.injEq,Sum.inr.injEq] at e;rw [e]
 | .str x, .tup us,_,_,e=>by simp [ktT] at e
 | .tup ts, .int j,_,_,e=>by simp [ktT] at e
 | .tup ts, .str y,_,_,e=>by simp [ktT] at e
 | .tup ts, .tup us,h1,h2,e=>by
  simp only [ktT,Tk.KT.tp.injEq] at e
  rw [kts_inj h1 h2 e]
theorem kts_inj:∀ {ts us:List Tr},Kps ts→Kps us→ktTs ts=ktTs us→ts=us
 | [],[],_,_,_=>rfl
 | [],_::_,_,_,e=>by simp [ktTs] at e
 |_::_,[],_,_,e=>by simp [ktTs] at e
 |t::ts,u::us,h1,h2,e=>by
  simp only [ktTs,zf] at e
  rw [rm h1.1 h2.1 e.1,kts_inj h1.2 h2.2 e.2]
end
theorem nJ {t u:Tr} (h1:Ty .tm t) (h2:Ty .tm u) (e:ktL t=ktL u):t=u:=by
 have k1:=gB h1
 have k2:=gB h2
 obtain ⟨ts,rfl⟩:=j6 h1
 obtain ⟨us,rfl⟩:=j6 h2
 rw [kts_inj k1 k2 e]
mutual
theorem rn:∀ {t:Tr},Kp t→(ktT t).depth=t.depth
 | .int i,_=>by simp [ktT,Tk.KT.depth,Tr.depth]
 | .str x,_=>by simp [ktT,Tk.KT.depth,Tr.depth]
 | .tup ts,k=>by
  simp only [ktT,Tk.KT.depth,Tr.depth]
  rw [kts_dep k]
theorem kts_dep:∀ {ts:List Tr},Kps ts→Tk.KTs.depth (ktTs ts)=Trs.depth ts
 | [],_=>by simp [ktTs,Tk.KTs.depth,Trs.depth]
 |t::ts,k=>by
  simp only [ktTs,Tk.KTs.depth,Trs.depth]
  rw [rn k.1,kts_dep k.2]
end
section
variable {K:PySem.W.Frag} {H:Hp}
mutual
theorem ww:∀ {v:V} {t:Tr},Kp t→TrAt H v t→KVt K H v (ktT t)
 |v, .int i,_,h=>by unfold TrAt at h;simp only [ktT,KVt];exact h
 |v, .str x,_,h=>by unfold TrAt at h;simp only [ktT,KVt];exact h
 |v, .tup ts,k,h=>by
  unfold TrAt at h
  obtain ⟨r,vs,e,h1,h2⟩:=h
  simp only [ktT,KVt]
  exact ⟨r,vs,e, .inl h1,kvts_of k h2⟩
theorem kvts_of:∀ {vs:List V} {ts:List Tr},Kps ts→TrsAt H vs ts→KVts K H vs (ktTs ts)
 |vs,[],_,h=>by unfold TrsAt at h;simp only [ktTs,KVts];exact h
 |vs,t::ts,k,h=>by
  obtain ⟨v,r,e,h1,h2⟩:=h.inv
  simp only [ktTs,KVts]
  exact ⟨v,r,e,ww k.1 h1,kvts_of k.2 h2⟩
end
theorem jz {b:Addr} {t:Tr} (ty:Ty .tm t) (hd:t.depth≤7) (h:TrAt H (.ref b) t):KeyAt K H (ktL t) b:=by
 have kp:=gB ty
 obtain ⟨ts,rfl⟩:=j6 ty
 unfold TrAt at h
 obtain ⟨r,vs,e,h1,h2⟩:=h
 cases e
 refine ⟨vs, .inl h1,kvts_of kp h2,?_⟩
 have:= @kts_dep ts kp
 simp only [Tr.depth] at hd
 simp only [ktL,Tk.KT.depth]
 omega
end
theorem j7 {H:Hp} {v:V} {t:Tr} (ty:Ty .tm t) (h:TrAt H v t):∃b,v= .ref b:=by
 obtain ⟨ts,rfl⟩:=j6 ty
 unfold TrAt at h
 obtain ⟨r,vs,e,_⟩:=h
 exact ⟨r,e⟩
theorem uP {t:Tr} (h:Ty .tm t):Hs t:=by
 cases h<;>exact ⟨_,_,rfl⟩
def En (H:Hp) (g:Tr→Fr) (e:Ent) (t:Tr):Prop:=e.1=ktL t∧TrAt H (.ref e.2.1) t∧TrAt H e.2.2 (frT (g t))
structure DAt (P:Program) (w:World) (K:PySem.W.Frag) (H:Hp) (a:Addr) (ks:List Tr) (g:Tr→Fr):Prop where
 ex:∃kvs,DJ P w K H a kvs∧Paired (En H g) kvs ks
 ty:∀t∈ks,Ty .tm t∧t.depth≤7
 nd:ks.Nodup
section
variable {P:Program} {w:World} {K:PySem.W.Frag} {H H':Hp} {a:Addr} {ks:List Tr} {g:Tr→Fr}
theorem o9 {kvs:List Ent} (k:Kd H H') (h:Paired (En H g) kvs ks):Paired (En H' g) kvs ks:=Paired.imp' (fun e t x=>⟨x.1,x.2.1.mono k,x.2.2.mono k⟩) h
theorem DAt.kd (x:DAt P w K H a ks g) (k:Kd H H') (hs:∀o,(∀xs,o≠ .lst xs)→H a=some o→H' a=some o):DAt P w K H' a ks g:=by
 obtain ⟨kvs,d,p⟩:=x.ex
 exact ⟨⟨kvs,d.kd k (hs _ (fun _ z=>by cases z) d.at_),o9 k p⟩,x.ty,x.nd⟩
theorem DAt.same (x:DAt P w K H a ks g) (s:Same H H'):DAt P w K H' a ks g:=x.kd (Kd.of_same s) fun o _ e=>s _ _ e
theorem rQ {kvs:List Ent} (h:Paired (En H g) kvs ks) (ty:∀t∈ks,Ty .tm t) {t:Tr} (tt:Ty .tm t):(t∈ks→∃v,valJ kvs (ktL t)=some v∧TrAt H v (frT (g t)))∧(t∉ks→valJ kvs (ktL t)=none):=by
 induction h with
 |nil=>exact ⟨fun m=>(by cases m),fun _=>rfl⟩
 | @cons e u es us h1 _ ih=>
  obtain ⟨i1,i2⟩:=ih fun x m=>ty x (ym _ m)
  by_cases z:u=t
  · subst z
    exact ⟨fun _=>⟨e.2.2,jM h1.1,h1.2.2⟩,fun n=>absurd yn n⟩
  · have ne:¬e.1=ktL t:=fun q=>z (nJ (ty u yn) tt (h1.1.symm.trans q))
    refine ⟨fun m=> ?_,fun n=> ?_⟩
    · rw [gy ne]
      rcases yk.mp m with e'|m
      · exact absurd e'.symm z
      · exact i1 m
    · rw [gy ne]
      exact i2 fun m=>n (ym _ m)
theorem DAt.val (x:DAt P w K H a ks g) {t:Tr} (tt:Ty .tm t):∃kvs,DJ P w K H a kvs∧kvs.length=ks.length∧(t∈ks→∃v,valJ kvs (ktL t)=some v∧TrAt H v (frT (g t)))∧(t∉ks→valJ kvs (ktL t)=none):=by
 obtain ⟨kvs,d,p⟩:=x.ex
 exact ⟨kvs,d,Paired.length p,rQ p (fun t m=>(x.ty t m).1) tt⟩
open Classical in
noncomputable def setG (g:Tr→Fr) (t:Tr) (f:Fr):Tr→Fr:=fun u=>if u=t then f else g u
open Classical in
noncomputable def addK (ks:List Tr) (t:Tr):List Tr:=if t∈ks then ks else ks++ [t]
theorem wP {kvs:List Ent} {t:Tr} {f:Fr} {v:V} (hv:TrAt H v (frT f)) (tt:Ty .tm t) (h:Paired (En H g) kvs ks) (ty:∀t∈ks,Ty .tm t):Paired (En H (setG g t f)) (kvs.map fun p=>if p.1=ktL t then (p.1,p.2.1,v) else p) ks:=by
 induction h with
 |nil=>exact .nil
 | @cons e u es us h1 _ ih=>
  rw [yD]
  refine .cons ?_ (ih fun x m=>ty x (ym _ m))
  by_cases z:u=t
  · subst z
    rw [if_pos h1.1]
    refine ⟨h1.1,h1.2.1,?_⟩
    unfold setG
    rw [if_pos rfl]
    exact hv
  · have ne:¬e.1=ktL t:=fun q=>z (nJ (ty u yn) tt (h1.1.symm.trans q))
    rw [if_neg ne]
    refine ⟨h1.1,h1.2.1,?_⟩
    unfold setG
    rw [if_neg z]
    exact h1.2.2
theorem wO {kvs:List Ent} {t:Tr} {f:Fr} (n:t∉ks) (h:Paired (En H g) kvs ks):Paired (En H (setG g t f)) kvs ks:=by
 induction h with
 |nil=>exact .nil
 | @cons e u es us h1 _ ih=>
  refine .cons ⟨h1.1,h1.2.1,?_⟩ (ih fun m=>n (ym _ m))
  unfold setG
  rw [if_neg (fun z=>n (by rw [←z];exact yn))]
  exact h1.2.2
theorem DAt.put (x:DAt P w K H a ks g) {t:Tr} {b:Addr} {v:V} {f:Fr} (tt:Ty .tm t) (hd:t.depth≤7) (hb:TrAt H (.ref b) t) (hv:TrAt H v (frT f)) {kvs:List Ent} (d:DJ P w K H a kvs) (hk:DAt P w K H a ks g→Paired (En H g) kvs ks):
 DAt P w K (upd H a (dJ P w a (putJ kvs (ktL t) b v))) a (addK ks t) (setG g t f):=by
 have p:=hk x
 have kd:=Kd.updJ (o:=dJ P w a (putJ kvs (ktL t) b v)) d.at_
 have ev:=rQ p (fun t m=>(x.ty t m).1) tt
 refine ⟨⟨_,d.put (jz tt hd hb),?_⟩,fun u m=> ?_,?_⟩
 · refine o9 kd ?_
   unfold putJ addK
   by_cases m:t∈ks
   · obtain ⟨v',e',_⟩:=ev.1 m
     rw [e',if_pos m,if_pos (show (some v').isSome=true from rfl)]
     exact wP hv tt p fun t m=>(x.ty t m).1
   · rw [ev.2 m,if_neg m,if_neg (by simp)]
     refine Paired.snoc (wO m p) ⟨rfl,hb,?_⟩
     unfold setG
     rw [if_pos rfl]
     exact hv
 · unfold addK at m
   split at m
   · exact x.ty u m
   · rcases yx.mp m with m|m
     · exact x.ty u m
     · rw [yv.mp m]
       exact ⟨tt,hd⟩
 · unfold addK
   split
   · exact x.nd
   · rename_i n
     exact List.nodup_append.mpr ⟨x.nd,(by simp),fun u mu y my=>by rw [yv.mp my];exact fun z=>n (by rw [←z];exact mu)⟩
theorem DAt.keys (x:DAt P w K H a ks g):∃kvs,DJ P w K H a kvs∧TrsAt H (kvs.map fun e=>V.ref e.2.1) ks:=by
 obtain ⟨kvs,d,p⟩:=x.ex
 refine ⟨kvs,d,?_⟩
 clear d x
 induction p with
 |nil=>exact .nil
 |cons h1 _ ih=>exact .cons h1.2.1 ih
end
open Classical in
structure Sd (ds:List Pq) (ks:List Tr) (g:Tr→Fr):Prop where
 sh:∀t∈ks,Sh (g t)
 eq:∀t,tot t ds=if t∈ks then rv (g t) else 0
theorem Sd.nil (g:Tr→Fr):Sd [] [] g:=⟨fun t m=>(by cases m),fun t=>(by rw [if_neg (by simp)];rfl)⟩
open Classical in
theorem Sd.add {ds:List Pq} {ks:List Tr} {g:Tr→Fr} (h:Sd ds ks g) {p:Pq} {f:Fr} (hf:Sh f) (e:rv f=(if p.1∈ks then rv (g p.1) else 0)+rv p.2):Sd (ds++ [p]) (addK ks p.1) (setG g p.1 f):=by
 refine ⟨fun t m=> ?_,fun t=> ?_⟩
 · unfold setG
   by_cases z:t=p.1
   · rw [if_pos z];exact hf
   · rw [if_neg z]
     unfold addK at m
     split at m
     · exact h.sh t m
     · rcases yx.mp m with m|m
       · exact h.sh t m
       · exact absurd (yv.mp m) z
 · rw [t4,t3,h.eq]
   unfold addK setG
   by_cases z:t=p.1
   · subst z
     rw [if_pos rfl]
     by_cases m:p.1∈ks
     · rw [if_pos m,if_pos m,if_pos m,if_pos rfl,e,if_pos m]
     · have m2:p.1∈ks++ [p.1]:=yX _ yn
       rw [if_neg m,if_neg m,if_pos m2,if_pos rfl,e,if_neg m]
   · have z':¬p.1=t:=fun q=>z q.symm
     have ek:(t∈(if p.1∈ks then ks else ks++ [p.1]))↔t∈ks:=by
      split
      · exact Iff.rfl
      · rw [yx,yv]
        exact ⟨fun q=>q.elim id fun q=>absurd q z, .inl⟩
     simp only [ek,z,z',if_false]
     grind
noncomputable def outP (g:Tr→Fr) (ts:List Tr):List Pq:=(ts.filter fun t=>decide ((g t).1≠0)).map fun t=>(t,g t)
open Classical in
theorem mV (g:Tr→Fr) (u:Tr):∀ {ts:List Tr},ts.Nodup→(∀t∈ts,Sh (g t))→tot u (outP g ts)=if u∈ts then rv (g u) else 0
 | [],_,_=>by rw [if_neg (by simp)];rfl
 |t::ts,nd,hs=>by
  obtain ⟨n1,n2⟩:=zp.mp nd
  have ih:=mV g u n2 fun x m=>hs x (ym _ m)
  unfold outP at ih ⊢
  rw [List.filter_cons]
  have hsame:∀(q:Rat),(if u=t then q else 0)+(if u∈ts then rv (g u) else 0)=(if u∈t::ts then (if u=t then q else rv (g u)) else 0):=by
   intro q
   by_cases z:u=t
   · have nu:u∉ts:=fun m=>n1 (by rw [←z];exact m)
     rw [if_pos z,if_neg nu,if_pos (by rw [z];exact yn),if_pos z]
     grind
   · rw [if_neg z]
     by_cases m:u∈ts
     · rw [if_pos m,if_pos (ym _ m),if_neg z]
       grind
     · rw [if_neg m,if_neg (fun q=>(yk.mp q).elim z m)]
       grind
  by_cases z0:(g t).1=0
  · have e:decide ((g t).1≠0)=false:=by simp [z0]
    rw [e,if_neg (by decide),ih]
    have gz:rv (g t)=0:=by
     unfold rv
     rw [z0]
     have:((0:Int):Rat)=0:=by simp
     rw [this]
     grind
    have:=hsame 0
    by_cases z:u=t
    · subst z
      rw [if_neg n1,if_pos yn,gz]
    · rw [if_neg z] at this
      by_cases m:u∈ts
      · rw [if_pos m,if_pos (ym _ m)]
      · rw [if_neg m,if_neg (fun q=>(yk.mp q).elim z m)]
  · have e:decide ((g t).1≠0)=true:=by simp [z0]
    rw [e,if_pos rfl,yD]
    simp only [tot]
    rw [ih]
    by_cases z:u=t
    · subst z
      rw [if_pos rfl,if_neg n1,if_pos yn]
      grind
    · rw [if_neg (fun q=>z q.symm)]
      by_cases m:u∈ts
      · rw [if_pos m,if_pos (ym _ m)]
        grind
      · rw [if_neg m,if_neg (fun q=>(yk.mp q).elim z m)]
        grind
theorem Sd.can {ds:List Pq} {ks ts:List Tr} {g:Tr→Fr} (h:Sd ds ks g) (nd:ks.Nodup) (ty:∀t∈ks,Ty .tm t) (pm:ts.Perm ks) (hr:∀(i j:Nat) (t u:Tr),i≤j→ts[i]?=some t→ts[j]?=some u→ltT u t=false):Can ds (outP g ts):=by
 have ndt:ts.Nodup:=pm.nodup_iff.mpr nd
 have hs:∀t∈ts,Sh (g t):=fun t m=>h.sh t (pm.mem_iff.mp m)
 refine ⟨?_,fun p m=> ?_,fun t=> ?_⟩
 · unfold outP Asc
   rw [List.pairwise_map]
   refine List.Pairwise.filter _ ?_
   rw [zd]
   intro i j hi hj hij
   have e1:ts[i]?=some ts[i]:=yj hi
   have e2:ts[j]?=some ts[j]:=yj hj
   have le:=hr i j _ _ (by omega) e1 e2
   refine uZ le ?_
   cases q:eqT ts[i] ts[j] with
   |false=>rfl
   |true=>
    have:=pH (ty _ (pm.mem_iff.mp (zk hi))) (ty _ (pm.mem_iff.mp (zk hj))) q
    have:=(List.nodup_iff_pairwise_ne.mp ndt)
    rw [zd] at this
    exact absurd ‹ts[i]=ts[j]› (this i j hi hj hij)
 · obtain ⟨t,mt,rfl⟩:=yV.mp m
   obtain ⟨m1,m2⟩:=z9.mp mt
   refine ⟨hs t m1,fun z=> ?_⟩
   have:(g t).1≠0:=by simpa using m2
   exact this (by rw [show g t=zero from z];rfl)
 · rw [mV g t ndt hs,h.eq]
   by_cases m:t∈ks
   · rw [if_pos m,if_pos (pm.mem_iff.mpr m)]
   · rw [if_neg m,if_neg (fun q=>m (pm.mem_iff.mp q))]
end Dj
namespace K05
open PySem L2 Mth Tre Wd Su Dj
section
variable {P:Program} {w:World} {K:PySem.W.Frag} {mg:Str→Option Value} {base:Heap}
def jb:Sp:=fun vs H Q _=>∃(l:Addr) (ps:List Pq) (n e:Nat),vs= [.ref l]∧PsAt H l ps∧ps.length≤n∧n < 64∧1+n*(e+1)≤8000∧(∀p∈ps,Gq e p)∧
 ∀(v:V) (H':Hp) (us:List Pq),Same H H'→TrAt H' v (.tup (us.map prT))→Can ps us→us.length≤ps.length→(∀u∈us,Gq (1+n*(e+1)) u)→Q v H'
theorem scLSm:az ["_law_pairs_here","_law_found","_law_term_here","_law_many","_law_top","_law_bottom"] ["_law_pairs_here"] (ag iC):=⟨rfl,rfl,rfl,by decide +kernel,rfl,by decide +kernel,by decide +kernel⟩
open Classical in
theorem wN {ks:List Tr} {g:Tr→Fr} {m:Nat} (hg:∀t∈ks,Gf (1+m) (g t)) (t:Tr):Gf (1+m) (if t∈ks then g t else zero):=by
 split
 · rename_i h
   exact hg t h
 · refine ⟨by decide,?_,?_⟩
   · show (0:Nat) < 2^(1+m)
     exact Nat.pow_pos (by decide)
   · show (1:Nat) < 2^(1+m)
     exact Nat.one_lt_two_pow (by omega)
open Classical in
theorem tX {f fL:Addr} {fd dL:FuncData} (F:Fun K "_law_sum" "_law_sum" iC f fd) (B:Blt mg)
 (gL:FnOk P w K mg base CX0 1 fL dL ["_law_top","_law_bottom"] fJ) (kL:PySem.W.keepIn K (.ref fL)=true) (bL:Binds K dL ["_law_top","_law_bottom"] []) (mL:mg "_law_lowest"=some (.ref fL)):FnOk P w K mg base CX0 3 f fd ["_law_pairs_here"] jb:=by
 refine F.ok scLSm (fun vs H Q E h=> ?_) (fun cdv A outer s H vs Q E hr h=> ?_)
 · obtain ⟨l,ps,n,e,rfl,_⟩:=h
   rfl
 obtain ⟨l,ps,n,e,rfl,⟨ws,hl,hT⟩,hn,n64,h8,hg,k⟩:=h
 have hun:=hr.units
 have hu1:=i5 hr
 have hr1:Room 1 _:=hr.mono (by decide)
 have hu30:=yG (yW (show 30≤64 by decide) _) hun
 have hu60:=yG (yW (show 60≤64 by decide) _) hun
 refine ⟨_,ae (aA (i:=1) scLSm.nd rfl (Or.inr rfl) (tK (P:=P) (w:=w) rfl rfl))
  (ae (fj PassesOwn.never rfl (gg (pv 0)) (lU rfl (cP (aQ (i:=2) scLSm.nd rfl (Or.inl rfl)) (cP (aQ (i:=3) scLSm.nd rfl (Or.inl rfl)) jg)))
   (ae (lQ (tM (P:=P) (w:=w) (K:=K) rfl rfl rfl hu30 (pv 1) (pv 2) (aX (a9 ac (a9 ac aa))) ⟨rfl,rfl,rfl,rfl⟩) (lU rfl (cP (aQ (i:=4) scLSm.nd rfl (Or.inl rfl)) (cP (aQ (i:=5) scLSm.nd rfl (Or.inl rfl)) jg))))
   (ai (tF (P:=P) (w:=w) (K:=K) rfl rfl rfl hu30 (pv 1) (pv 2) (af gL hr1 rfl mL kL bL .nil aj (a9 (aB bU (aB jp (pv 4) (aq ar (pv 3) ac fun _ _=>rfl)) (aB jp (aq ar (pv 3) ac fun _ _=>rfl) (pv 5))) (a9 (aB jp (pv 5) (aq ar (pv 3) ac fun _ _=>rfl)) aa))) rfl))))
  (ai (ak (bJ cF rfl B.tu PyProof.Rows.boot_tuple (a9
   (br (NC:= ["_law_term_here","_law_found"]) (mp:= [none,some 1]) rfl (gg (ao (mJ (P:=P) (w:=w) (K:=K) rfl rfl rfl rfl hu60) rfl B.so PyProof.Rows.boot_sorted (a9 (pv 1) aa))) (fun _ _ _ _ _=>aQ (i:=0) (show (["_law_term_here","_law_found"]:List Str).Nodup by decide +kernel) rfl (Or.inl rfl))
    (fun _ _ _ _ _=>eO (aE kh (aq (r:=rIxT K) ar (qL (P:=P) (w:=w) (K:=K) rfl rfl rfl hu30 (pv 1) (pv 0) (fun _ _=>rfl)) ac fun _ _=>rfl) ac (ax _)))
    (fun _ _ _ _ _=>aX (a9 (pv 0) (a9 (qL (P:=P) (w:=w) (K:=K) rfl rfl rfl hu30 (pv 1) (pv 0) (fun _ _=>rfl)) aa)))) aa))))),?_⟩
 have hL:(20000:Nat)≤sizeLine:=by decide +kernel
 intro D nD
 have s1:Same H (upd H D (dJ P w D [])):=ah nD
 have d0:DAt P w K (upd H D (dJ P w D [])) D [] (fun _=>zero):=⟨⟨[],⟨ad,fun p m=>(by cases m)⟩, .nil⟩,fun t m=>(by cases m),List.nodup_nil⟩
 have wl:=hT.len
 rw [yo] at wl
 refine ⟨_,rfl,l,rfl,⟨_,SqL.of (s1 _ _ hl)⟩,?_⟩
 refine kY (xs:=ws) (fun i σ H'=>Same H H'∧∃(ks:List Tr) (g:Tr→Fr) (v2 v3 v4 v5:Option V),σ= [some (.ref l),some (.ref D),v2,v3,v4,v5]∧DAt P w K H' D ks g∧Sd (ps.take i) ks g∧(∀t∈ks,Gf (1+i*(e+1)) (g t))∧ks.length≤i)
  ⟨s1,[],_,none,none,none,none,rfl,d0,by rw [List.take_zero];exact Sd.nil _,(fun t m=>by cases m),yl _⟩ (fun i σ H' _ p=>SqL.of (p.1 _ _ hl)) ?_ ?_
 · rintro i x σ H1 ex ⟨sH,ks,g,v2,v3,v4,v5,rfl,hD,hSd,hgk,hkl⟩
   obtain ⟨u,eu,hu⟩:=(hT.mono (Kd.of_same sH)).get' ex
   rw [yL] at eu
   obtain ⟨⟨tm,fr⟩,eq,rfl⟩:=yR.mp eu
   have gu:=hg _ (yw eq)
   have ilt:i < ps.length:=(yF.mp eq).1
   obtain ⟨r,xt,xf,rfl,hr',hxt,hxf⟩:=jj hu
   obtain ⟨rf,rfl,hrf⟩:=sw hxf
   have tyt:=gu.ty
   have dpt:=gu.dep
   have gfr:=gu.gf
   have shr:=gu.sh
   dsimp only at hxt tyt dpt gfr shr
   obtain ⟨bt,rfl⟩:=j7 tyt hxt
   have ei:1+(i+1)*(e+1)=1+i*(e+1)+e+1:=by rw [Nat.succ_mul];omega
   have ib:1+(i+1)*(e+1)≤8000:=by
    have:(i+1)*(e+1)≤n*(e+1):=Nat.mul_le_mul_right _ (by omega)
    omega
   refine ⟨r,_,rfl,SqT.of hr',rfl,_,_,rfl,_,_,rfl,rfl,?_⟩
   obtain ⟨kvs,dj,kl,vin,vout⟩:=hD.val tyt
   refine ⟨_,rfl,D,kvs,rfl,dj,_,rfl,by show 2≤sizeLine;decide,fun p np=> ?_⟩
   have sp:=ah (o:= .tup [.int 0, .int 1]) np
   have hD2:=hD.same sp
   have dj2:=dj.kd (Kd.of_same sp) (sp _ _ dj.at_)
   refine ⟨bt,ktL tm,rfl,dj2,jz tyt dpt (hxt.mono (Kd.of_same sp)),?_⟩
   obtain ⟨z,ez,hz⟩:∃z,(valJ kvs (ktL tm)).getD (.ref p)=z∧TrAt (upd H1 p (.tup [.int 0, .int 1])) z (frT (if tm∈ks then g tm else zero)):=by
    by_cases m:tm∈ks
    · obtain ⟨v,e1,e2⟩:=vin m
      rw [e1,if_pos m]
      exact ⟨v,rfl,e2.mono (Kd.of_same sp)⟩
    · rw [vout m,if_neg m]
      exact ⟨_,rfl,cy ad⟩
   rw [ez]
   have gq:=wN hgk tm
   have sq:Sh (if tm∈ks then g tm else zero):=by
    split
    · rename_i m
      exact hSd.sh tm m
    · exact nh
   have rq:rv (if tm∈ks then g tm else zero)=if tm∈ks then rv (g tm) else 0:=by
    split
    · rfl
    · exact rv_zero
   obtain ⟨rz,rfl,hrz⟩:=sw hz
   have sH2:=sH.trans sp
   have hrf2:=sp _ _ hrf
   have hxt2:=hxt.mono (Kd.of_same sp)
   generalize upd H1 p (.tup [.int 0, .int 1])=H2 at sp hD2 dj2 hrz sH2 hrf2 hxt2 ⊢
   generalize (if tm∈ks then g tm else zero)=q at gq sq rq hrz
   refine ⟨rz,_,rfl,SqT.of hrz,rfl,_,_,rfl,_,_,rfl,rfl,?_⟩
   have bq1:Big q.1:=gq.top.big (by omega)
   have bq2:Big q.2:=gq.bot.big (by omega)
   have bf1:Big fr.1:=gfr.top.big (by omega)
   have bf2:Big fr.2:=gfr.bot.big (by omega)
   refine ⟨_,rfl,_,rfl,rf,_,1, .int fr.2,rfl,rfl,SqT.of hrf2,rfl,_,_,rfl,rfl,⟨bq1,bf2⟩,_,rfl,rf,_,0, .int fr.1,rfl,rfl,SqT.of hrf2,rfl,_,rfl,_,_,rfl,rfl,⟨bf1,bq2⟩,_,_,rfl,rfl,_,rfl,_,rfl,rf,_,1, .int fr.2,rfl,rfl,SqT.of hrf2,rfl,_,_,rfl,rfl,⟨bq2,bf2⟩,?_⟩
   have y0:0 < q.2*fr.2:=Int.mul_pos gq.pos gfr.pos
   have lx:Lt2 (1+(i+1)*(e+1)) (q.1*fr.2+fr.1*q.2):=by
    rw [ei]
    refine Lt2.add (gq.top.mul gfr.bot) ?_
    rw [Nat.add_comm]
    exact gfr.top.mul gq.bot
   have ly:Lt2 (1+(i+1)*(e+1)) (q.2*fr.2):=by
    rw [ei]
    exact (gq.bot.mul gfr.bot).mono (by omega)
   have erv:rv (low (q.1*fr.2+fr.1*q.2) (q.2*fr.2))=rv q+rv fr:=by
    rw [vK y0]
    have n1:=ne0 gq.pos
    have n2:=ne0 gfr.pos
    unfold rv
    simp only [Rat.intCast_mul,Rat.intCast_add]
    grind
   refine ⟨_,_,rfl,y0,eX (ly.big ib) (by omega),fun r' H3 hr3 e3=> ?_⟩
   subst e3
   have s3:=ah (o:= .tup [.int (low (q.1*fr.2+fr.1*q.2) (q.2*fr.2)).1, .int (low (q.1*fr.2+fr.1*q.2) (q.2*fr.2)).2]) hr3
   have hv3:TrAt (upd H2 r' (.tup [.int (low (q.1*fr.2+fr.1*q.2) (q.2*fr.2)).1, .int (low (q.1*fr.2+fr.1*q.2) (q.2*fr.2)).2])) (.ref r') (frT (low (q.1*fr.2+fr.1*q.2) (q.2*fr.2))):=cy ad
   have hD3:=hD2.same s3
   have hxt3:=hxt2.mono (Kd.of_same s3)
   have sH3:=sH2.trans s3
   have sl:=lP (t:=q.1*fr.2+fr.1*q.2) y0
   have gl:=wM y0 lx ly
   have e00:(q.1*fr.2+fr.1*q.2) / (Int.gcd (q.1*fr.2+fr.1*q.2) (q.2*fr.2):Int)=(low (q.1*fr.2+fr.1*q.2) (q.2*fr.2)).1:=rfl
   have e01:(q.2*fr.2) / (Int.gcd (q.1*fr.2+fr.1*q.2) (q.2*fr.2):Int)=(low (q.1*fr.2+fr.1*q.2) (q.2*fr.2)).2:=rfl
   dsimp only
   rw [e00,e01]
   generalize low (q.1*fr.2+fr.1*q.2) (q.2*fr.2)=nw at*
   generalize upd H2 r' (.tup [.int nw.1, .int nw.2])=H3 at*
   obtain ⟨kvs3,dj3,pr3⟩:=hD3.ex
   have kl3:kvs3.length=ks.length:=Paired.length pr3
   refine ⟨_,rfl,_,rfl,D,bt,ktL tm,kvs3,rfl,rfl,dj3,jz tyt dpt hxt3,by omega,?_⟩
   refine ⟨c8 nD sH3,addK ks tm,setG g tm nw,_,_,_,_,rfl,hD3.put tyt dpt hxt3 hv3 dj3 (fun _=>pr3),?_,fun t m=> ?_,?_⟩
   · rw [jR eq]
     exact hSd.add (p:=(tm,fr)) sl (by rw [erv,rq])
   · unfold setG
     by_cases z:t=tm
     · rw [if_pos z];exact gl
     · rw [if_neg z]
       have mt:t∈ks:=by
        unfold addK at m
        split at m
        · exact m
        · rcases yx.mp m with m|m
          · exact m
          · exact absurd (yv.mp m) z
       exact (hgk t mt).mono (by omega)
   · unfold addK
     split
     · omega
     · rw [yt,yJ]
       omega
 · rintro σ H1 ⟨sH,ks,g,v2,v3,v4,v5,rfl,hD,hSd,hgk,hkl⟩
   rw [wl] at hkl hgk
   rw [wl,zt] at hSd
   obtain ⟨kvs,dj,hK⟩:=hD.keys
   dsimp only
   refine mR ?_
   refine cN rfl ?_
   refine ⟨_,rfl,D,kvs,ks,rfl,dj,hK,by omega,fun t m=>⟨uP (hD.ty t m).1,cT (hD.ty t m).1,by have:=(hD.ty t m).2;omega⟩,fun t m u mu=>pA 30 (by have:=(hD.ty t m).2;omega) (hD.ty t m).1 (hD.ty u mu).1,fun S ws' us nS pm hT' srt=> ?_⟩
   have sS:=ah (o:= .lst ws') nS
   have hS2:(upd H1 S (.lst ws')) S=some (.lst ws'):=ad
   have hD2:=hD.same sS
   have hT2:=hT'.mono (Kd.of_same sS)
   have sH2:=sH.trans sS
   generalize upd H1 S (.lst ws')=H2 at sS hS2 hD2 hT2 sH2 ⊢
   have wl2:=hT2.len
   have ul:us.length=ks.length:=pm.length_eq
   refine ⟨S,rfl,⟨ws',SqL.of hS2⟩,fun D2 nD2=> ?_⟩
   have hcan:=hSd.can hD.nd (fun t m=>(hD.ty t m).1) pm srt
   refine ic (xs:=ws') (fun i acc H''=>Same H2 H''∧H'' D2=some (.lst acc)∧TrsAt H'' acc ((outP g (us.take i)).map prT)) ⟨ah nD2,ad,by rw [List.take_zero];exact .nil⟩ (fun i acc H'' p=>SqL.of (p.1 _ _ hS2)) ?_ ?_
   · rintro i x acc H3 hi ex ⟨s3,hD3,hA⟩
     obtain ⟨t,et,ht⟩:=(hT2.mono (Kd.of_same s3)).get' ex
     have mt:t∈ks:=pm.mem_iff.mp (yw et)
     obtain ⟨tyt,dpt⟩:=hD.ty t mt
     obtain ⟨b,rfl⟩:=j7 tyt ht
     have hDD:=hD2.same s3
     obtain ⟨kvs3,dj3,kl3,vin,_⟩:=hDD.val tyt
     obtain ⟨v,ev,hv⟩:=vin mt
     obtain ⟨rv',rfl,hrv⟩:=sw hv
     have kb:=jz (K:=K) tyt dpt ht
     have al:=hA.len
     rw [yo] at al
     have al2:(outP g (us.take i)).length≤us.length:=by
      unfold outP
      rw [yo]
      refine yU (List.length_filter_le _ _) ?_
      rw [yN]
      omega
     refine ⟨_,rfl,_,rfl,D,b,ktL t,kvs3, .ref rv',rfl,rfl,dj3,kb,ev,rv',_,0, .int (g t).1,rfl,rfl,SqT.of hrv,rfl,rfl,_,rfl,?_⟩
     have ef:outP g (us.take (i+1))=outP g (us.take i)++(if decide ((g t).1≠0)=true then [(t,g t)] else []):=by
      unfold outP
      rw [jR et,List.filter_append,zh,List.filter_cons]
      split<;>rfl
     have ee:(!decide (V.int (g t).1=V.int 0))=decide ((g t).1≠0):=by
      by_cases z:(g t).1=0
      · simp [z]
      · simp [z]
     rw [ee]
     refine ite2 (fun y=> ?_) (fun y=>CompS.mk hi ⟨s3,hD3,?_⟩)
     · refine ⟨_,rfl,_,rfl,_,rfl,D,b,ktL t,kvs3, .ref rv',rfl,rfl,dj3,kb,ev,by show 2≤sizeLine;decide,fun p np=> ?_⟩
       have sp:=ah (o:= .tup [.ref b, .ref rv']) np
       have hD4:=sp _ _ hD3
       have kd:=(Kd.of_same sp).trans (Kd.upd (ys:=acc++ [.ref p]) hD4)
       have nDp:p≠D2:=fun z=>by rw [z,hD3] at np;cases np
       refine CompN.mk hi (by omega) hD4 ⟨c8 nD2 (s3.trans sp),ad,?_⟩
       rw [ef,if_pos y,zh]
       exact TrsAt.app (.cons (jI ((aF nDp).trans ad) (ht.mono kd) (hv.mono kd)) .nil) (hA.mono kd)
     · rw [ef,if_neg y,List.append_nil]
       exact hA
   · rintro acc H3 ⟨s3,hD3,hA⟩
     rw [wl2,zt] at hA
     refine ⟨D2,acc,rfl, .inl ⟨SqL.of hD3,fun p np=> ?_⟩⟩
     have sp:=ah (o:= .tup acc) np
     refine k (.ref p) _ _ (sH2.trans (s3.trans sp)) (c6 ad (hA.mono (Kd.of_same sp))) hcan ?_ fun u m=> ?_
     · unfold outP
       rw [yo]
       have:=List.length_filter_le (fun t=>decide ((g t).1≠0)) us
       omega
     · unfold outP at m
       obtain ⟨t,mt,rfl⟩:=yV.mp m
       have mt:=pm.mem_iff.mp (z9.mp mt).1
       exact ⟨(hD.ty t mt).1,(hD.ty t mt).2,(hgk t mt).mono (by have:=Nat.mul_le_mul_right (e+1) hn;omega),hSd.sh t mt⟩
end
open PySem L2 Mth Tre Wd Su EqD
theorem uB {ps us:List Pq} (h:Can ps us) {u:Pq} (m:u∈us):∃p∈ps,p.1=u.1:=by
 have e1:=gv h.asc m
 rw [h.eq] at e1
 have n0:rv u.2≠0:=fun z=>(h.sh u m).2 ((qm (h.sh u m).1).mp z)
 refine Classical.byContradiction fun no=>n0 ?_
 rw [←e1]
 exact dh fun p mp e=>no ⟨p,mp,e⟩
mutual
theorem rX:∀(p:Pl),dd p≤pdep p
 | .tup ts=>by
  rw [pdep,dd]
  have:=dds_dep ts
  omega
 | .non=>by rw [dd]<;>simp
 | .bl _=>by rw [dd]<;>simp
 | .int _=>by rw [dd]<;>simp
 | .str _=>by rw [dd]<;>simp
 | .lst=>by rw [dd]<;>simp
 | .dct=>by rw [dd]<;>simp
theorem dds_dep:∀(ts:List Pl),dds ts≤psdep ts+1
 | []=>by rw [dds];omega
 |t::ts=>by
  rw [psdep,dds]
  have h1:=rX t
  have h2:=dds_dep ts
  omega
end
mutual
theorem rV:∀(p:Pl),pdep p≤dd p+1
 | .tup ts=>by
  rw [pdep,dd]
  have:=deps_dd ts
  omega
 | .non=>by rw [pdep]<;>simp
 | .bl _=>by rw [pdep]<;>simp
 | .int _=>by rw [pdep]<;>simp
 | .str _=>by rw [pdep]<;>simp
 | .lst=>by rw [pdep]<;>simp
 | .dct=>by rw [pdep]<;>simp
theorem deps_dd:∀(ts:List Pl),psdep ts≤dds ts
 | []=>by rw [psdep];omega
 |t::ts=>by
  rw [psdep,dds]
  have h1:=rV t
  have h2:=deps_dd ts
  omega
end
def Gk (d:Nat) (p:Pl):Prop:=Gp 3 d p∧Kw 5 p
theorem Gk.mono {d e:Nat} {p:Pl} (h:Gk d p) (hd:d≤e):Gk e p:=⟨h.1.mono (yl _) hd,h.2⟩
theorem c9 {d e:Nat} {p:Pl} (h:Gp 3 d p) (h5:d≤5) (he:d≤e):Gk e p:=⟨h.mono (yl _) he,eR p (by have:=rX p;have:=h.dep;omega)⟩
theorem jC {x:Str} (h:decide (x.length≤300)=true) (h2:x.cps.toList.all (fun c=>decide (c < 128))=true) (d:Nat):Gk d (toPl (.str x)):=⟨i6 h h2 d,by rw [toPl,Kw]<;>simp⟩
theorem cY {ts:List Tr} {d:Nat} (h3:ts.length≤3) (ht:∀t∈ts,Gk d (toPl t)) (hk:∀t∈ts,¬Kx (toPl t)):Gk (d+1) (toPl (.tup ts)):=by
 refine ⟨ck h3 fun t m=>(ht t m).1,?_⟩
 simp only [toPl,cM]
 refine fu (fun ⟨x,mx,e⟩=> ?_) fun x mx=> ?_
 · obtain ⟨t,mt,rfl⟩:=yV.mp mx
   exact absurd e (hk t mt)
 · obtain ⟨t,mt,rfl⟩:=yV.mp mx
   exact (ht t mt).2
theorem js {x:Str} (h:x.cps.toList≠(Str.ofString "name").cps.toList) (h2:x.cps.toList≠(Str.ofString "call").cps.toList):¬Kx (toPl (.str x)):=by
 rw [toPl]
 exact kxs h h2
theorem c5 {ts:List Tr}:¬Kx (toPl (.tup ts)):=by
 rw [toPl]
 exact dm
theorem pG {t:Tr} (h:Ty .tm t):¬Kx (toPl t):=by
 cases h with
 |nm x=>exact c5
 |ap x ts _ _=>exact c5
theorem xZ {x:Str} (h:Trm.Nm x):Gk 8 (toPl (.tup [.str (Str.ofString "flag"), .str x])):=by
 refine c9 (d:=1) (ck (d:=0) (by simp) fun t m=> ?_) (by decide) (by decide)
 simp only [yk,yq,or_false] at m
 rcases m with rfl|rfl
 · exact i6 (by decide +kernel) (by decide +kernel) _
 · rw [toPl]
   exact .str _ _ (by have:=h.le;omega) (m7 h)
theorem vd {t u:Tr} (h:Gp 3 5 (toPl t)) (h2:Gp 3 5 (toPl u)) (y1:Ty .tm t) (y2:Ty .tm u):Gk 8 (toPl (.tup [.str (Str.ofString "like"),t,u])):=by
 refine cY (d:=7) (by simp) (fun t m=> ?_) fun t m=> ?_
 · simp only [yk,yq,or_false] at m
   rcases m with rfl|rfl|rfl
   · exact jC (by decide +kernel) (by decide +kernel) _
   · exact c9 h (by decide) (by decide)
   · exact c9 h2 (by decide) (by decide)
 · simp only [yk,yq,or_false] at m
   rcases m with rfl|rfl|rfl
   · exact js (by decide +kernel) (by decide +kernel)
   · exact pG y1
   · exact pG y2
theorem xX {t:Tr} {e:Nat} (h:Gk (8+2*e) (toPl t)) (hn:¬Kx (toPl t)):Gk (8+2*(e+1)) (toPl (.tup [.str (Str.ofString "not"),t])):=by
 refine Gk.mono (d:=8+2*e+1) (cY (by simp) (fun t m=> ?_) fun t m=> ?_) (by omega)
 · simp only [yk,yq,or_false] at m
   rcases m with rfl|rfl
   · exact jC (by decide +kernel) (by decide +kernel) _
   · exact h
 · simp only [yk,yq,or_false] at m
   rcases m with rfl|rfl
   · exact js (by decide +kernel) (by decide +kernel)
   · exact hn
theorem vf {kk:Str} {l:List Tr} {e:Nat} (h:decide (kk.length≤300)=true) (h2:kk.cps.toList.all (fun c=>decide (c < 128))=true) (k1:kk.cps.toList≠(Str.ofString "name").cps.toList) (k2:kk.cps.toList≠(Str.ofString "call").cps.toList) (h3:l.length≤3) (hl:∀p∈l,Gk (8+2*e) (toPl p)) (hn:∀p∈l,¬Kx (toPl p)):Gk (8+2*(e+1)) (toPl (.tup [.str kk, .tup l])):=by
 refine cY (d:=8+2*e+1) (by simp) (fun t m=> ?_) fun t m=> ?_
 · simp only [yk,yq,or_false] at m
   rcases m with rfl|rfl
   · exact jC h h2 _
   · exact cY h3 hl hn
 · simp only [yk,yq,or_false] at m
   rcases m with rfl|rfl
   · exact js k1 k2
   · exact c5
theorem rJ {ps us:List Pq} (h3:us.length≤3) (hc:Can ps us) (hq:∀p∈ps,Dq p) (hg:∀u∈us,Gf 600 u.2):Gk 7 (toPl (.tup (us.map prT))):=by
 refine cY (d:=6) (by rw [yo];exact h3) (fun t m=> ?_) fun t m=> ?_
 · obtain ⟨u,mu,rfl⟩:=yV.mp m
   obtain ⟨p,mp,e⟩:=uB hc mu
   refine cY (d:=5) (by simp [prT]) (fun t m=> ?_) fun t m=> ?_
   · simp only [prT,yk,yq,or_false] at m
     rcases m with rfl|rfl
     · rw [←e]
       exact c9 (hq p mp).gp (by decide) (by decide)
     · exact c9 (rG (hg u mu) 0) (by decide) (by decide)
   · simp only [prT,yk,yq,or_false] at m
     rcases m with rfl|rfl
     · rw [←e]
       exact pG (hq p mp).gq.ty
     · exact c5
 · obtain ⟨u,mu,rfl⟩:=yV.mp m
   exact c5
theorem xY {ps us:List Pq} {f:Fr} (h3:us.length≤3) (hc:Can ps us) (hq:∀p∈ps,Dq p) (hg:∀u∈us,Gf 600 u.2) (gf:Gf 600 f):Gk 8 (toPl (.tup [.str (Str.ofString "most"), .tup (us.map prT),frT f])):=by
 refine cY (d:=7) (by simp) (fun t m=> ?_) fun t m=> ?_
 · simp only [yk,yq,or_false] at m
   rcases m with rfl|rfl|rfl
   · exact jC (by decide +kernel) (by decide +kernel) _
   · exact rJ h3 hc hq hg
   · exact c9 (rG gf 0) (by decide) (by decide)
 · simp only [yk,yq,or_false] at m
   rcases m with rfl|rfl|rfl
   · exact js (by decide +kernel) (by decide +kernel)
   · exact c5
   · exact c5
theorem xw {r:Int} (h0:0≤r) (h4:r < 5):∃m:Nat,atI [V.int 0, .int 1, .int 2, .int 2, .int 3] r=some (.int (m:Int))∧m≤3:=by
 have:r=0∨r=1∨r=2∨r=3∨r=4:=by omega
 rcases this with rfl|rfl|rfl|rfl|rfl
 · exact ⟨0,rfl,by decide⟩
 · exact ⟨1,rfl,by decide⟩
 · exact ⟨2,rfl,by decide⟩
 · exact ⟨2,rfl,by decide⟩
 · exact ⟨3,rfl,by decide⟩
theorem xv (r:Int):(atI [V.str (Str.ofString "both"), .str (Str.ofString "either")] (r%2)=some (.str (Str.ofString "both")))∨(atI [V.str (Str.ofString "both"), .str (Str.ofString "either")] (r%2)=some (.str (Str.ofString "either"))):=by
 have:r%2=0∨r%2=1:=by omega
 rcases this with e|e<;>rw [e]
 · exact .inl rfl
 · exact .inr rfl
section
variable {P:Program} {w:World} {K:PySem.W.Frag} {mg:Str→Option Value} {base:Heap}
def jd:Sp:=fun vs H Q _=>∃(f c nl:Addr),vs= [.ref f, .ref nl]∧FeedAt H f c∧Names H nl∧nl≠f∧nl≠c∧
 ∀v t H',FeedAt H' f c→But f c H H'→TrAt H' v t→Gk 8 (toPl t)→(∃ts,t= .tup ts)→Q v H'
theorem scAt:az ["_law_feed_here","_law_names_here","_law_way"] ["_law_feed_here","_law_names_here"] (ag iH):=⟨rfl,rfl,rfl,by decide +kernel,rfl,by decide +kernel,by decide +kernel⟩
theorem u5 {f fT fS fM fD fP:Addr} {fd dT dS dM dD dP:FuncData} (F:Fun K "_law_atom" "_law_atom" iH f fd)
 (gT:FnOk P w K mg base CX0 4 fT dT ["_law_feed_here","_law_names_here","_law_deep"] (eY 3)) (kT:PySem.W.keepIn K (.ref fT)=true) (bT:Binds K dT ["_law_feed_here","_law_names_here","_law_deep"] []) (mT:mg "_law_term"=some (.ref fT))
 (gS:FnOk P w K mg base CX0 3 fS dS ["_law_feed_here"] pY) (kS:PySem.W.keepIn K (.ref fS)=true) (bS:Binds K dS ["_law_feed_here"] []) (mS:mg "_law_share"=some (.ref fS))
 (gM:FnOk P w K mg base CX0 3 fM dM ["_law_pairs_here"] jb) (kM:PySem.W.keepIn K (.ref fM)=true) (bM:Binds K dM ["_law_pairs_here"] []) (mM:mg "_law_sum"=some (.ref fM))
 (gP:FnOk P w K mg base CX0 5 fP dP ["_law_feed_here","_law_names_here","_law_deep","_law_most"] fY) (kP:PySem.W.keepIn K (.ref fP)=true) (bP:Binds K dP ["_law_feed_here","_law_names_here","_law_deep","_law_most"] []) (mP:mg "_law_pairs"=some (.ref fP))
 (gD:FnOk P w K mg base CX0 1 fD dD ["_law_feed_here","_law_many"] bY) (kD:PySem.W.keepIn K (.ref fD)=true) (bD:Binds K dD ["_law_feed_here","_law_many"] []) (mD:mg "_law_draw"=some (.ref fD)):
 FnOk P w K mg base CX0 6 f fd ["_law_feed_here","_law_names_here"] jd:=by
 refine F.ok scAt (fun vs H Q E h=> ?_) (fun cdv A outer s H vs Q E hr h=> ?_)
 · obtain ⟨f,c,nl,rfl,_⟩:=h
   rfl
 obtain ⟨f,c,nl,rfl,hF,hN,nf,nc,k⟩:=h
 have hr1:Room 1 _:=hr.mono (by decide)
 have hr3:Room 3 _:=hr.mono (by decide)
 have hr4:Room 4 _:=hr.mono (by decide)
 refine ⟨_,ae (aA (i:=2) scAt.nd rfl (Or.inl rfl) (af gD hr1 rfl mD kD bD .nil aj (a9 (pv 0) (a9 ac aa))))
  (ae (aM (aE cf (pv 2) ac (ax _)) (ai (ak (aX (a9 aG (a9 (aq aO (pv 1) (af gD hr1 rfl mD kD bD .nil aj (a9 (pv 0) (a9 ac aa))) fun _ _=>rfl) aa))))) aw)
  (ae (aM (aE iJ (pv 2) ac (ax _)) (ai (ak (aX (a9 aG (a9 (af gM hr3 rfl mM kM bM .nil aj (a9 (af gP hr rfl mP kP bP .nil aj (a9 (pv 0) (a9 (pv 1) (a9 ac (a9 ac aa))))) aa)) (a9 (af gS hr3 rfl mS kS bS .nil aj (a9 (pv 0) aa)) aa)))))) aw)
  (ai (ak (aX (a9 aG (a9 (af gT hr4 rfl mT kT bT .nil aj (a9 (pv 0) (a9 (pv 1) (a9 ac aa)))) (a9 (af gT hr4 rfl mT kT bT .nil aj (a9 (pv 0) (a9 (pv 1) (a9 ac aa)))) aa)))))))),?_⟩
 refine ⟨_,rfl,f,c,4,rfl,hF,by decide,aW (by decide) (by decide),fun r H1 _ _ hF1 kp1=> ?_⟩
 have b1:But f c H H1:=But.of_keep kp1
 refine ⟨_,rfl,rfl,_,rfl,?_⟩
 refine ite2 (fun _=> ?_) (fun _=> ?_)
 · refine ⟨_,rfl,_,rfl,f,c,6,rfl,hF1,by decide,aW (by decide) (by decide),fun r2 H2 h0 h6 hF2 kp2=> ?_⟩
   have b2:=b1.trans (But.of_keep kp2)
   obtain ⟨xs,x,e1,e2,wx⟩:=(hN.but nf nc b2).at h0 (by omega)
   refine ⟨nl,xs,r2,_,rfl,rfl,SqL.of e1,e2,by show 2≤sizeLine;decide,fun p np=> ?_⟩
   exact k (.ref p) _ _ (hF2.wr (hF2.ne np)) (b2.wr (b2.free hF2 np)) (c6 ad (.cons bX (.cons bX .nil))) (xZ wx) ⟨_,rfl⟩
 refine ⟨_,rfl,_,_,rfl,rfl,_,rfl,?_⟩
 refine ite2 (fun _=> ?_) (fun _=> ?_)
 · refine ⟨_,rfl,_,rfl,f,c,nl,1,3,rfl,hF1,hN.but nf nc b1,nf,nc,by decide,by decide,fun l ps H2 nl2 hF2 b2 hps hl3 hq=> ?_⟩
   refine ⟨l,ps,3,30,rfl,hps,hl3,by decide,by decide,fun p m=>(hq p m).gq,fun v H3 us s3 hv hcan hul hg=> ?_⟩
   have hF3:=hF2.same s3
   have b3:But f c H2 H3:=But.of_same s3
   refine ⟨_,rfl,f,c,rfl,hF3,fun v2 H4 fr hF4 b4 hv2 gf sf=> ?_⟩
   refine ⟨by show 3≤sizeLine;decide,fun p np=> ?_⟩
   have bb:=b1.trans (b2.trans (b3.trans b4))
   have sp:=ah (o:= .tup [.str (Str.ofString "most"),v,v2]) np
   refine k (.ref p) _ _ (hF4.wr (hF4.ne np)) (bb.wr (bb.free hF4 np)) (c6 ad (.cons bX (.cons (hv.mono ((b4.kd hF3 hF4).trans (Kd.of_same sp))) (.cons (hv2.mono (Kd.of_same sp)) .nil)))) (xY (by omega) hcan hq (fun u m=>(hg u m).gf.mono (by decide)) (gf.mono (by decide))) ⟨_,rfl⟩
 · refine ⟨_,rfl,_,rfl,f,c,nl,2,rfl,hF1,hN.but nf nc b1,nf,nc,by decide,fun v t H2 hF2 b2 hv ty dt lt=> ?_⟩
   refine ⟨_,rfl,_,rfl,f,c,nl,2,rfl,hF2,hN.but nf nc (b1.trans b2),nf,nc,by decide,fun v2 t2 H3 hF3 b3 hv2 ty2 dt2 lt2=> ?_⟩
   refine ⟨by show 3≤sizeLine;decide,fun p np=> ?_⟩
   have bb:=b1.trans (b2.trans b3)
   have sp:=ah (o:= .tup [.str (Str.ofString "like"),v,v2]) np
   exact k (.ref p) _ _ (hF3.wr (hF3.ne np)) (bb.wr (bb.free hF3 np)) (c6 ad (.cons bX (.cons (hv.mono ((b3.kd hF2 hF3).trans (Kd.of_same sp))) (.cons (hv2.mono (Kd.of_same sp)) .nil)))) (vd lt lt2 ty ty2) ⟨_,rfl⟩
def lN (n:Nat):Sp:=fun vs H Q _=>∃(f c nl:Addr) (d:Nat),vs= [.ref f, .ref nl, .int (d:Int)]∧FeedAt H f c∧Names H nl∧nl≠f∧nl≠c∧d < n∧
 ∀v t H',FeedAt H' f c→But f c H H'→TrAt H' v t→Gk (8+2*d) (toPl t)→(∃ts,t= .tup ts)→Q v H'
theorem scWi:az ["_law_feed_here","_law_names_here","_law_deep","_law_way","_law_many"] ["_law_feed_here","_law_names_here","_law_deep"] (ag iA):=⟨rfl,rfl,rfl,by decide +kernel,rfl,by decide +kernel,by decide +kernel⟩
theorem tV {f fD fA:Addr} {fd dD dA:FuncData} (F:Fun K "_law_wish" "_law_wish" iA f fd) (bF:Binds K fd ["_law_feed_here","_law_names_here","_law_deep"] []) (mF:mg "_law_wish"=some (.ref f)) (B:Blt mg)
 (gD:FnOk P w K mg base CX0 1 fD dD ["_law_feed_here","_law_many"] bY) (kD:PySem.W.keepIn K (.ref fD)=true) (bD:Binds K dD ["_law_feed_here","_law_many"] []) (mD:mg "_law_draw"=some (.ref fD))
 (gA:FnOk P w K mg base CX0 6 fA dA ["_law_feed_here","_law_names_here"] jd) (kA:PySem.W.keepIn K (.ref fA)=true) (bA:Binds K dA ["_law_feed_here","_law_names_here"] []) (mA:mg "_law_atom"=some (.ref fA)):
 ∀n,FnOk P w K mg base CX0 (n+7) f fd ["_law_feed_here","_law_names_here","_law_deep"] (lN n):=by
 intro n
 induction n with
 |zero=>exact ⟨fun vs H Q E ⟨_,_,_,_,_,_,_,_,_,h,_⟩=>absurd h (by omega),fun A outer s H args us vs Q E _ _ _ _ ⟨_,_,_,_,_,_,_,_,_,h,_⟩=>absurd h (by omega)⟩
 |succ n ih=>
  refine F.ok scWi (fun vs H Q E h=> ?_) (fun cdv A outer s H vs Q E hr h=> ?_)
  · obtain ⟨f,c,nl,d,rfl,_⟩:=h
    rfl
  obtain ⟨f,c,nl,d,rfl,hF,hN,nf,nc,hd,k⟩:=h
  have hr1:Room 1 _:=hr.mono (by omega)
  have hr6:Room 6 _:=hr.mono (by omega)
  refine ⟨_,ae (aM (PW.pt (bQ (aE cf (pv 2) ac (ax _)) (bK (aE cf (af gD hr1 rfl mD kD bD .nil aj (a9 (pv 0) (a9 ac aa))) ac (ax _)))))
   (ai (ak (af gA hr6 rfl mA kA bA .nil aj (a9 (pv 0) (a9 (pv 1) aa))))) aw)
   (ae (aA (i:=3) scWi.nd rfl (Or.inl rfl) (af gD hr1 rfl mD kD bD .nil aj (a9 (pv 0) (a9 ac aa))))
   (ae (aM (aE cf (pv 3) ac (ax _)) (ai (ak (aX (a9 aG (a9 (af ih hr rfl mF F.kp bF .nil aj (a9 (pv 0) (a9 (pv 1) (a9 (aB cV (pv 2) ac) aa)))) aa))))) aw)
   (ae (aA (i:=4) scWi.nd rfl (Or.inl rfl) (aq aO (aR (a9 ac (a9 ac (a9 ac (a9 ac (a9 ac aa)))))) (af gD hr1 rfl mD kD bD .nil aj (a9 (pv 0) (a9 ac aa))) fun _ _=>rfl))
   (ai (ak (aX (a9 (aq aO (aR (a9 aG (a9 aG aa))) (aB cB (pv 3) ac) fun _ _=>rfl) (a9 (bJ cF rfl B.tu PyProof.Rows.boot_tuple (a9
    (br (NC:= ["_law_k","_law_deep","_law_feed_here","_law_names_here"]) (mp:= [none,some 2,some 0,some 1]) rfl (bZ rfl B.ra (a9 (pv 4) aa)) (fun _ _ _ _ _=>aQ (i:=0) (show (["_law_k","_law_deep","_law_feed_here","_law_names_here"]:List Str).Nodup by decide +kernel) rfl (Or.inl rfl)) (fun _ _ _ _ _=>cu)
     (fun _ _ _ _ _=>af ih hr rfl mF F.kp bF .nil aj (a9 (pv 2) (a9 (pv 3) (a9 (aB cV (pv 1) ac) aa))))) aa)) aa)))))))),?_⟩
  have hL:(20000:Nat)≤sizeLine:=by decide +kernel
  have atom:∀H1,FeedAt H1 f c→But f c H H1→(tRet (pR jd [] E0 (bE (tVar 0) (bE (tVar 1) tNil)))) {nx:=fun _ H'=>Q .non H',rt:=Q} [some (.ref f),some (.ref nl),some (.int (d:Int)),none,none] H1:=by
   intro H1 hF1 b1
   exact ⟨_,rfl,_,rfl,f,c,nl,rfl,hF1,hN.but nf nc b1,nf,nc,fun v t H2 hF2 b2 hv hx ht=>k v t H2 hF2 (b1.trans b2) hv (hx.mono (by omega)) ht⟩
  refine ⟨_,rfl,rfl,_,rfl,?_⟩
  refine ite2 (fun _=>atom H hF (But.of_same (Same.refl H))) (fun hd0=> ?_)
  have d0:d≠0:=fun z=>hd0 (by rw [z];decide)
  refine ⟨_,rfl,f,c,4,rfl,hF,by decide,aW (by decide) (by decide),fun r1 H1 _ _ hF1 kp1=> ?_⟩
  have b1:But f c H H1:=But.of_keep kp1
  refine ⟨rfl,_,rfl,?_⟩
  refine ite2 (fun _=>atom H1 hF1 b1) (fun _=> ?_)
  obtain ⟨e,rfl⟩:∃e,d=e+1:=⟨d - 1,by omega⟩
  have ed:(((e+1:Nat):Int) - 1)=(e:Int):=by omega
  refine ⟨_,rfl,f,c,4,rfl,hF1,by decide,aW (by decide) (by decide),fun r2 H2 r20 r24 hF2 kp2=> ?_⟩
  have b2:=b1.trans (But.of_keep kp2)
  refine ⟨_,rfl,rfl,_,rfl,?_⟩
  refine ite2 (fun _=> ?_) (fun _=> ?_)
  · refine ⟨_,rfl,_,rfl,_,rfl,_,_,rfl,rfl,f,c,nl,e,?_,hF2,hN.but nf nc b2,nf,nc,by omega,fun v t H3 hF3 b3 hv hx ⟨tt,ett⟩=> ?_⟩
    · show [V.ref f, .ref nl, .int (((e+1:Nat):Int) - 1)]=_
      rw [ed]
    refine ⟨by show 2≤sizeLine;decide,fun p np=> ?_⟩
    have bb:=b2.trans b3
    have sp:=ah (o:= .tup [.str (Str.ofString "not"),v]) np
    exact k (.ref p) _ _ (hF3.wr (hF3.ne np)) (bb.wr (bb.free hF3 np)) (c6 ad (.cons bX (.cons (hv.mono (Kd.of_same sp)) .nil))) (xX hx (by rw [ett];exact c5)) ⟨_,rfl⟩
  refine ⟨by show 5≤sizeLine;decide,fun p np=> ?_⟩
  have nfp:=hF2.ne np
  have n0p:=b2.free hF2 np
  refine ⟨_,rfl,f,c,5,rfl,hF2.wr nfp,by decide,aW (by decide) (by decide),fun r3 H3 h0 h5 hF3 kp3=> ?_⟩
  have hp3:H3 p=some (.lst [.int 0, .int 1, .int 2, .int 2, .int 3]):=(kp3 p nfp.1 nfp.2).trans ad
  have b3:=(b2.wr n0p (o:= .lst [.int 0, .int 1, .int 2, .int 2, .int 3])).trans (But.of_keep kp3)
  obtain ⟨m,em,m3⟩:=xw h0 h5
  refine ⟨p,_,r3,_,rfl,rfl,SqL.of hp3,em,?_⟩
  refine ⟨by show 2≤sizeLine;decide,fun p2 np2=> ?_⟩
  have s4:=ah (o:= .lst [.str (Str.ofString "both"), .str (Str.ofString "either")]) np2
  have hF4:=hF3.same s4
  have b4:=b3.trans (But.of_same s4)
  have hp4:(upd H3 p2 (.lst [.str (Str.ofString "both"), .str (Str.ofString "either")])) p2=some (.lst [.str (Str.ofString "both"), .str (Str.ofString "either")]):=ad
  generalize upd H3 p2 (.lst [.str (Str.ofString "both"), .str (Str.ofString "either")])=H4 at hF4 b4 hp4
  obtain ⟨kk,ek,hk⟩:∃kk:Str,atI [V.str (Str.ofString "both"), .str (Str.ofString "either")] (r2%2)=some (.str kk)∧∀l:List Tr,l.length≤3→(∀p∈l,Gk (8+2*e) (toPl p)∧∃ts,p= .tup ts)→Gk (8+2*(e+1)) (toPl (.tup [.str kk, .tup l])):=by
   rcases xv r2 with h|h
   · exact ⟨_,h,fun l h1 h2=>vf (by decide +kernel) (by decide +kernel) (by decide +kernel) (by decide +kernel) h1 (fun p m=>(h2 p m).1) fun p m=>(by obtain ⟨_,ts,rfl⟩:=h2 p m;exact c5)⟩
   · exact ⟨_,h,fun l h1 h2=>vf (by decide +kernel) (by decide +kernel) (by decide +kernel) (by decide +kernel) h1 (fun p m=>(h2 p m).1) fun p m=>(by obtain ⟨_,ts,rfl⟩:=h2 p m;exact c5)⟩
  refine ⟨_,rfl,_,_,rfl,rfl,by show (0:Int) < 2;decide,p2,_,_,_,rfl,rfl,SqL.of hp4,ek,?_⟩
  refine jQ ?_
  refine cm rfl ?_
  refine ⟨_,rfl,m,rfl,by omega,by omega,fun D nD=> ?_⟩
  have nfD:=hF4.ne nD
  have n0D:=b4.free hF4 nD
  refine cZ (n:=m) (fun i acc H'=>FeedAt H' f c∧But f c H H'∧H' D=some (.lst acc)∧∃l:List Tr,TrsAt H' acc l∧l.length=i∧∀p∈l,Gk (8+2*e) (toPl p)∧∃ts,p= .tup ts)
   ⟨hF4.wr nfD,b4.wr n0D,ad,[], .nil,rfl,fun y m=>by cases m⟩ ?_ ?_
  · rintro i acc H' hi ⟨hF',bt,hD,l,hT,hl,hw⟩
    refine ⟨_,rfl,_,rfl,_,rfl,_,_,rfl,rfl,f,c,nl,e,?_,hF',hN.but nf nc bt,nf,nc,by omega,fun v t H6 hF6 b6 hv hx htt=> ?_⟩
    · show [V.ref f, .ref nl, .int (((e+1:Nat):Int) - 1)]=_
      rw [ed]
    · have hD6:H6 D=some (.lst acc):=b6 D _ nfD.1 nfD.2 hD
      have kd6:=b6.kd hF' hF6
      have tp:=Kd.upd (ys:=acc++ [v]) hD6
      have hl2:=hT.len
      refine CompN.mk hi (by omega) hD6 ⟨hF6.wr nfD,(bt.trans b6).wr n0D,ad,l++ [t],TrsAt.app (.cons (hv.mono tp) .nil) (hT.mono (kd6.trans tp)),by simp [hl],fun u mu=> ?_⟩
      rcases yx.mp mu with mu|mu
      · exact hw u mu
      · rw [yv.mp mu]
        exact ⟨hx,htt⟩
  · rintro acc H5 ⟨hF5,b5,hD,l,hT,hl,hw⟩
    refine ⟨D,acc,rfl, .inl ⟨SqL.of hD,fun q nq'=> ?_⟩⟩
    refine ⟨by show 2≤sizeLine;decide,fun q2 nq=> ?_⟩
    have s1:Same H5 (upd H5 q (.tup acc)):=ah nq'
    have s2:Same (upd H5 q (.tup acc)) (upd (upd H5 q (.tup acc)) q2 (.tup [.str kk, .ref q])):=ah nq
    have hx:=hk l (by omega) hw
    exact k (.ref q2) _ _ (hF5.same (s1.trans s2)) (b5.trans (But.of_same (s1.trans s2))) (c6 ad (.cons bX (.cons (c6 (s2 _ _ ad) (hT.mono (Kd.of_same (s1.trans s2)))) .nil))) hx ⟨_,rfl⟩
end
end K05
namespace St8
open PySem
noncomputable def bts (m:Nat):List Nat:=(List.range 8).filter fun j=>m.testBit j
noncomputable def plc (m:Nat):Array Nat:=(bts m).toArray
noncomputable def oneB (m:Nat):Bool:=(List.range 8).all fun j=>
 (((plc m)[SetTable.below (plc m) j]?==some j)==m.testBit j)&& (m.testBit j ||((SetTable.insertAt (plc m) (SetTable.below (plc m) j) j==plc (m |||2^j))&&decide (SetTable.below (plc m) j≤(bts m).length)))
theorem tU:((List.range 256).all oneB)=true:=by decide +kernel
theorem jq {m j:Nat} (hm:m < 256) (hj:j < 8):(((plc m)[SetTable.below (plc m) j]?==some j)==m.testBit j)=true∧(m.testBit j=false→SetTable.insertAt (plc m) (SetTable.below (plc m) j) j=plc (m |||2^j)∧SetTable.below (plc m) j≤(bts m).length):=by
 have h:=z5.mp tU m (yY.mpr hm)
 have h2:=z5.mp h j (yY.mpr hj)
 rw [yH] at h2
 refine ⟨h2.1,fun e=> ?_⟩
 rw [e,Bool.false_or,yH] at h2
 exact ⟨eq_of_beq h2.2.1,of_decide_eq_true h2.2.2⟩
def stp (p:Nat×Nat):Nat×Nat:=((p.1*5+1+p.2 / 32)%8,p.2 / 32)
def itn:Nat→Nat×Nat→Nat×Nat
 |0,p=>p
 |n+1,p=>itn n (stp p)
theorem eS:∀(n:Nat) (p:Nat×Nat),itn (n+1) p=stp (itn n p)
 |0,p=>rfl
 |n+1,p=>by rw [itn,eS n,itn]
def beg (h:Int):Nat×Nat:=(SetTable.bits h%8,SetTable.bits h)
def sq (h:Int) (k:Nat):Nat:=(itn k (beg h)).1
theorem vF (p:Nat×Nat):(stp p).1 < 8:=Nat.mod_lt _ (by decide)
theorem fE (h:Int):∀k,sq h k < 8
 |0=>Nat.mod_lt _ (by decide)
 |k+1=>by unfold sq;rw [eS];exact vF _
theorem per (h:Int):∀k,(itn k (beg h)).2=SetTable.bits h / 32^k
 |0=>by simp [itn,beg]
 |k+1=>by
  rw [eS]
  show (itn k (beg h)).2 / 32=_
  rw [per h k,Nat.div_div_eq_div_mul,Nat.pow_succ]
theorem per0 (h:Int):(itn 13 (beg h)).2=0:=by
 rw [per]
 refine Nat.div_eq_of_lt (yB (m:=2^64) ?_ (by decide))
 unfold SetTable.bits
 have:=zv h (show (0:Int) < 2^64 by decide)
 have:=Int.emod_nonneg h (show (2^64:Int)≠0 by decide)
 omega
def lcg:Nat→Nat→Nat
 |0,i=>i
 |n+1,i=>lcg n ((i*5+1)%8)
theorem nR:∀(n i:Nat),itn n (i,0)=(lcg n i,0)
 |0,i=>rfl
 |n+1,i=>by
  have e:stp (i,0)=((i*5+1)%8,0):=by simp [stp]
  rw [itn,lcg,e]
  exact nR n _
theorem nU:∀(a b:Nat) (p:Nat×Nat),itn (a+b) p=itn b (itn a p)
 |0,b,p=>by rw [Nat.zero_add];rfl
 |a+1,b,p=>by rw [Nat.succ_add,itn,itn,nU a b]
theorem ue:((List.range 255).all fun m=>(List.range 8).all fun i=>(List.range 8).any fun n=> !m.testBit (lcg n i))=true:=by decide +kernel
theorem uq {m:Nat} (h:Int) (hm:m < 255):∃k,k < 21∧m.testBit (sq h k)=false:=by
 have h1:=z5.mp ue m (yY.mpr hm)
 have h2:=z5.mp h1 (sq h 13) (yY.mpr (fE h 13))
 obtain ⟨n,hn,e⟩:=List.any_eq_true.mp h2
 have hn:=yY.mp hn
 refine ⟨13+n,by omega,?_⟩
 unfold sq
 rw [nU]
 have e2:itn 13 (beg h)=(sq h 13,0):=Prod.ext rfl (per0 h)
 rw [e2,nR]
 simpa using e
structure Tb (t:SetTable) (m:Nat):Prop where
 mask:t.mask=7
 place:t.place=plc m
 dum:t.dummies= #[]
 lt:m < 256
noncomputable def prb (k:Nat) (h:Int):SetTable.Probe:= {j:=sq h k,more:=0,i:=sq h k,perturb:=(itn k (beg h)).2,dummy:=none}
theorem run7 {i:Nat}:SetTable.runEnd 7 i - i=0:=by
 unfold SetTable.runEnd
 rw [if_neg (by omega)]
 omega
theorem oO {t:SetTable} {m:Nat} (T:Tb t m) (h:Int):t.probeStart h=prb 0 h:=by
 unfold SetTable.probeStart prb
 rw [T.mask]
 simp only [run7]
 rfl
theorem ox {t:SetTable} {m:Nat} (T:Tb t m) (k:Nat) (h:Int):t.advance (prb k h)=prb (k+1) h:=by
 unfold SetTable.advance
 rw [if_neg (by show¬(0:Nat) > 0;omega)]
 unfold SetTable.leap
 rw [T.mask]
 simp only [run7,prb,sq,eS]
 rfl
theorem g9 {t:SetTable} {m j:Nat} (T:Tb t m) (hj:j < 8) (hb:m.testBit j=true):∃i,t.slot j= .live i∧(bts m)[i]?=some j:=by
 have h:=(jq T.lt hj).1
 rw [hb] at h
 have h:(plc m)[SetTable.below (plc m) j]?=some j:=by simpa using h
 refine ⟨SetTable.below (plc m) j,?_,?_⟩
 · unfold SetTable.slot
   rw [T.place]
   simp only [h,beq_self_eq_true,if_true]
 · unfold plc at h
   simpa [plc] using h
theorem jU {t:SetTable} {m j:Nat} (T:Tb t m) (hj:j < 8) (hb:m.testBit j=false):t.slot j= .empty:=by
 have h:=(jq T.lt hj).1
 rw [hb] at h
 have h:((plc m)[SetTable.below (plc m) j]?==some j)=false:=by simpa using h
 unfold SetTable.slot SetTable.has
 rw [T.place,T.dum]
 simp only [h,yA,if_false]
 simp [SetTable.below,SetTable.below.go]
theorem wV (m:Nat):(bts m).Nodup:=List.nodup_range.filter _
theorem xQ {l:List Nat} (h:l.Nodup) {i j:Nat} {x:Nat} (h1:l[i]?=some x) (h2:l[j]?=some x):i=j:=by
 obtain ⟨hi,e1⟩:=yF.mp h1
 obtain ⟨hj,e2⟩:=yF.mp h2
 have n:=List.nodup_iff_pairwise_ne.mp h
 rw [zd] at n
 rcases Nat.lt_trichotomy i j with q|q|q
 · exact absurd (e1.trans e2.symm) (n i j hi hj q)
 · exact q
 · exact absurd (e2.trans e1.symm) (n j i hj hi q)
theorem qC {t:SetTable} {m:Nat} (T:Tb t m) (hashAt:Nat→Int) (h:Int):∀(n k fuel:Nat),m.testBit (sq h (k+n))=false→n < fuel→
 (∃k',k≤k'∧k'≤k+n∧SetTable.probe.go t hashAt h fuel (prb k h)=some (.empty (sq h k') none)∧m.testBit (sq h k')=false∧∀q,k≤q→q < k'→m.testBit (sq h q)=true∧∀i,(bts m)[i]?=some (sq h q)→hashAt i≠h)∨
 (∃k' i,k≤k'∧k' < k+n∧SetTable.probe.go t hashAt h fuel (prb k h)=some (.candidate (sq h k') i (prb (k'+1) h))∧(bts m)[i]?=some (sq h k')∧hashAt i=h∧t.slot (sq h k')= .live i∧∀q,k≤q→q < k'→m.testBit (sq h q)=true∧∀i,(bts m)[i]?=some (sq h q)→hashAt i≠h):=by
 intro n
 induction n with
 |zero=>
  intro k fuel hf hn
  obtain ⟨fuel,rfl⟩:∃f,fuel=f+1:=⟨fuel - 1,by omega⟩
  refine .inl ⟨k,yl _,yl _,?_,hf,fun q h1 h2=>by omega⟩
  unfold SetTable.probe.go
  have e:t.slot (prb k h).j= .empty:=jU T (fE h k) hf
  rw [e]
  rfl
 |succ n ih=>
  intro k fuel hf hn
  obtain ⟨fuel,rfl⟩:∃f,fuel=f+1:=⟨fuel - 1,by omega⟩
  cases hb:m.testBit (sq h k) with
  |false=>
   refine .inl ⟨k,yl _,by omega,?_,hb,fun q h1 h2=>by omega⟩
   unfold SetTable.probe.go
   have e:t.slot (prb k h).j= .empty:=jU T (fE h k) hb
   rw [e]
   rfl
  |true=>
   obtain ⟨i,e,hi⟩:=g9 T (fE h k) hb
   have e':t.slot (prb k h).j= .live i:=e
   by_cases hh:hashAt i=h
   · refine .inr ⟨k,i,yl _,by omega,?_,hi,hh,e,fun q h1 h2=>by omega⟩
     unfold SetTable.probe.go
     rw [e']
     simp only [hh,beq_self_eq_true,if_true,ox T]
     rfl
   · have step:SetTable.probe.go t hashAt h (fuel+1) (prb k h)=SetTable.probe.go t hashAt h fuel (prb (k+1) h):=by
      rw [SetTable.probe.go]
      rw [e']
      have:(hashAt i==h)=false:=by simpa using hh
      simp only [this,yA,if_false,ox T]
     have here:∀q,q=k→m.testBit (sq h q)=true∧∀i,(bts m)[i]?=some (sq h q)→hashAt i≠h:=fun q hq=>by
      subst hq
      refine ⟨hb,fun j hj=> ?_⟩
      rw [xQ (wV m) hj hi]
      exact hh
     rcases ih (k+1) fuel (by rw [show k+1+n=k+(n+1) by omega];exact hf) (by omega) with ⟨k',a1,a2,a3,a4,a5⟩|⟨k',i',a1,a2,a3,a4,a5,a6,a7⟩
     · refine .inl ⟨k',by omega,by omega,step.trans a3,a4,fun q h1 h2=> ?_⟩
       by_cases z:q=k
       · exact here q z
       · exact a5 q (by omega) h2
     · refine .inr ⟨k',i',by omega,by omega,step.trans a3,a4,a5,a6,fun q h1 h2=> ?_⟩
       by_cases z:q=k
       · exact here q z
       · exact a7 q (by omega) h2
open PySem PySem.Spec PyProof.Rows L2 Tk
theorem lr:∀(n:Nat) {prog:Program} {w:World} {A:Around} {E:Value→Shared→Prop} {s:Shared} {t:KT} {v:Value} {Q:Bool→Shared→Prop},KAt s.heap v t→t.depth≤n→Q false s→wpAny (model prog w) A (ofAClassStatement n v) Q E s:=by
 have leaf:∀(n:Nat) {prog:Program} {w:World} {A:Around} {E:Value→Shared→Prop} {s:Shared} {k:Key} {v:Value} {Q:Bool→Shared→Prop},dX k v=true→Q false s→wpAny (model prog w) A (ofAClassStatement n v) Q E s:=by
  intro n prog w A E s k v Q h q
  rcases aH h with ⟨i,t,_,rfl⟩|⟨x,t,_,rfl⟩<;>(unfold ofAClassStatement;exact wpAny_pure q)
 intro n
 induction n with
 |zero=>
  intro prog w A E s t v Q h hd q
  cases t with
  |tp ts=>simp [KT.depth] at hd
  |lf k=>
   unfold KAt at h
   exact leaf 0 h q
 |succ n ih=>
  intro prog w A E s t v Q h hd q
  cases t with
  |lf k=>
   unfold KAt at h
   exact leaf _ h q
  |tp ts=>
   unfold KAt at h
   obtain ⟨a,o,items,m,rfl,g,c,d,r⟩:=h
   have ty:s.TypeIs (.ref a) "tuple":=⟨o,g,c⟩
   have hd':KTs.depth ts≤n:=by
    unfold KT.depth at hd
    omega
   unfold ofAClassStatement
   refine wpAny_bind (wpAny_typeOf ty ?_)
   simp only [beq_self_eq_true,if_true]
   refine wpAny_bind (wpAny_pure ?_)
   simp only [Bool.not_true,if_false,yA]
   refine wpAny_bind (wpAny_seqItems g d ?_)
   refine wpAny_bind ?_
   show wpAny _ _ (forIn items _ _) _ _ _
   rw [←Array.forIn_toList]
   refine wpAny_forIn_list _ (fun rest b s'=>b.1=none∧s'=s∧∃left,KsAt s.heap rest left∧KTs.depth left≤n) _ ?_ ?_ _ _ ⟨rfl,rfl,ts,r,hd'⟩
   · rintro x rest b s' ⟨hb,rfl,left,hl,hd2⟩
     cases left with
     |nil=>
      unfold KsAt at hl
      cases hl
     |cons t left=>
      unfold KsAt at hl
      obtain ⟨v,rr,e,h1,h2⟩:=hl
      cases e
      unfold KTs.depth at hd2
      refine wpAny_bind (ih h1 (by omega) ?_)
      simp only [if_false,yA]
      exact wpAny_pure ⟨rfl,rfl,left,h2,by omega⟩
   · rintro ⟨b1,b2⟩ s' ⟨hb,rfl,_⟩
     simp only at hb
     subst hb
     exact wpAny_pure q
theorem wL:∀(n:Nat) {prog:Program} {w:World} {A:Around} {E:Value→Shared→Prop} {s:Shared} {t:KT} {v:Value} {Q:Bool→Shared→Prop},KAt s.heap v t→(∀b,Q b s)→wpAny (model prog w) A (hashByValue n v) Q E s:=by
 have leaf:∀(n:Nat) {prog:Program} {w:World} {A:Around} {E:Value→Shared→Prop} {s:Shared} {k:Key} {v:Value} {Q:Bool→Shared→Prop},dX k v=true→(∀b,Q b s)→wpAny (model prog w) A (hashByValue n v) Q E s:=by
  intro n prog w A E s k v Q h q
  rcases aH h with ⟨i,t,_,rfl⟩|⟨x,t,_,rfl⟩<;>(cases n<;>(unfold hashByValue;exact wpAny_pure (q _)))
 intro n
 induction n with
 |zero=>
  intro prog w A E s t v Q h q
  cases t with
  |tp ts=>
   unfold KAt at h
   obtain ⟨a,o,items,m,rfl,g,c,d,r⟩:=h
   unfold hashByValue
   exact wpAny_pure (q _)
  |lf k=>
   unfold KAt at h
   exact leaf 0 h q
 |succ n ih=>
  intro prog w A E s t v Q h q
  cases t with
  |lf k=>
   unfold KAt at h
   exact leaf _ h q
  |tp ts=>
   unfold KAt at h
   obtain ⟨a,o,items,m,rfl,g,c,d,r⟩:=h
   have ty:s.TypeIs (.ref a) "tuple":=⟨o,g,c⟩
   unfold hashByValue
   refine wpAny_bind (wpAny_specialOf ty F.slot_tuple_hash.lookup ?_)
   refine wpAny_bind (wpAny_seqItems g d (wpAny_bind ?_))
   show wpAny _ _ (forIn items _ _) _ _ _
   rw [←Array.forIn_toList]
   refine wpAny_forIn_list _ (fun rest b s'=>b.1=none∧s'=s∧∃left,KsAt s.heap rest left) _ ?_ ?_ _ _ ⟨rfl,rfl,ts,r⟩
   · rintro x rest b s' ⟨hb,rfl,left,hl⟩
     cases left with
     |nil=>
      unfold KsAt at hl
      cases hl
     |cons t left=>
      unfold KsAt at hl
      obtain ⟨v,rr,e,h1,h2⟩:=hl
      cases e
      refine wpAny_bind (ih h1 fun bb=> ?_)
      cases bb with
      |true=>
       simp only [Bool.not_true,if_false,yA]
       exact wpAny_pure ⟨rfl,rfl,left,h2⟩
      |false=>
       simp only [Bool.not_false,if_true]
       exact wpAny_pure (wpAny_pure (q _))
   · rintro ⟨b1,b2⟩ s' ⟨hb,rfl,_⟩
     simp only at hb
     subst hb
     exact wpAny_pure (q _)
structure Sx (prog:Program) (w:World) (h:Heap) (m:Nat) (E:Nat→Int×Value) (kf:Nat→KT):Prop where
 at_:∀j,m.testBit j=true→KAt h (E j).2 (kf j)∧(kf j).depth≤8∧(∃b,(E j).2= .ref b)∧(E j).1=(kf j).hash prog w
 way:∀j,m.testBit j=true→∃k,sq (E j).1 k=j∧∀q,q < k→m.testBit (sq (E j).1 q)=true
 inj:∀i j,m.testBit i=true→m.testBit j=true→kf i=kf j→i=j
structure Si (b0:Bool) (h:Heap) (a:Addr) (m:Nat) (E:Nat→Int×Value) (o:Obj) (es:Array (Int×Value)) (ep:Nat) (t:SetTable):Prop where
 led:t.led=b0
 get:h.get? a=some o
 ex:o.ExactSet
 data:o.data= .set es ep t
 es:es.toList=(bts m).map E
 tb:Tb t m
 n4:(bts m).length≤4
theorem uc:((List.range 256).all fun m=>decide (4 < (bts m).length) ||decide (m < 255))=true:=by decide +kernel
theorem wm {m:Nat} (hm:m < 256) (h:(bts m).length≤4):m < 255:=by
 have:=z5.mp uc m (yY.mpr hm)
 rw [Bool.or_eq_true] at this
 rcases this with q|q
 · have:=of_decide_eq_true q
   omega
 · exact of_decide_eq_true q
theorem Si.fits {b0:Bool} {h:Heap} {a:Addr} {m:Nat} {E:Nat→Int×Value} {o:Obj} {es:Array (Int×Value)} {ep:Nat} {t:SetTable} (S:Si b0 h a m E o es ep t):t.fits es.size=true:=by
 have h1:es.size=(bts m).length:=by rw [←yy,S.es,yo]
 have h2:=S.n4
 unfold SetTable.fits SetTable.fill
 rw [S.tb.place,S.tb.dum,S.tb.mask,h1]
 simp only [plc,yp,beq_self_eq_true,Bool.true_and,decide_eq_true_eq]
 show (bts m).length+0≤7
 omega
theorem Si.get_at {b0:Bool} {h:Heap} {a:Addr} {m:Nat} {E:Nat→Int×Value} {o:Obj} {es:Array (Int×Value)} {ep:Nat} {t:SetTable} (S:Si b0 h a m E o es ep t) {i j:Nat} (e:(bts m)[i]?=some j):es[i]?=some (E j):=by
 rw [←yK,S.es,yL,e]
 rfl
theorem wU {m i j:Nat} (e:(bts m)[i]?=some j):m.testBit j=true:=(z9.mp (yw e)).2
section
variable {prog:Program} {w:World} {A:Around} {X:Value→Shared→Prop} {s:Shared} {a:Addr} {m:Nat} {E:Nat→Int×Value} {kf:Nat→KT} {o:Obj} {es:Array (Int×Value)} {ep:Nat} {t:SetTable} {b0:Bool}
theorem vI {x:Value} {kt:KT} (hxr:∃c,x= .ref c) (hx:KAt s.heap x kt) (hd:kt.depth≤8) {l:List Value} {Q:Bool→Shared→Prop} (hl:∀y∈l,∃t,KAt s.heap y t∧t.depth≤8∧∃b,y= .ref b) (q:Q false s):wpAny (model prog w) A (searchCouldBeSeen x l) Q X s:=by
 unfold searchCouldBeSeen
 refine wpAny_bind ?_
 refine wpAny_forIn_list _ (fun rest b s'=>b.1=none∧s'=s∧∀y∈rest,y∈l) _ ?_ ?_ _ _ ⟨rfl,rfl,fun y m=>m⟩
 · rintro y rest b s' ⟨hb,rfl,hm⟩
   obtain ⟨t,h1,h2,⟨b',rfl⟩⟩:=hl y (hm y yn)
   obtain ⟨c,rfl⟩:=hxr
   have go:∀y∈rest,y∈l:=fun y m=>hm y (ym _ m)
   dsimp only
   split
   · exact wpAny_pure ⟨rfl,rfl,go⟩
   · refine wpAny_bind (gX 8 hx hd ?_)
     simp only [Bool.not_true,yA,if_false]
     refine wpAny_bind (gX 8 h1 h2 ?_)
     simp only [Bool.not_true,yA,if_false]
     refine wpAny_bind (lr 8 hx hd ?_)
     simp only [yA,if_false]
     refine wpAny_bind (lr 8 h1 h2 ?_)
     simp only [yA,if_false]
     exact wpAny_pure ⟨rfl,rfl,go⟩
 · rintro ⟨b1,b2⟩ s' ⟨hb,rfl,_⟩
   simp only at hb
   subst hb
   exact wpAny_pure q
theorem oR (S:Si b0 s.heap a m E o es ep t) (D:Sx prog w s.heap m E kf) {x:Value} {kt:KT} (hxr:∃c,x= .ref c) (hx:KAt s.heap x kt) (hd:kt.depth≤8) (hu:A.units+20 < cLine):∀(n k F:Nat) (stand:Option SetTable.Probe) {Q:SetFound→Shared→Prop},
 m.testBit (sq (kt.hash prog w) (k+n))=false→n < F→n < 200→stand.getD (t.probeStart (kt.hash prog w))=prb k (kt.hash prog w)→
 (∀j,m.testBit j=true→kf j=kt→Q (.there none) s)→
 (∀k',k≤k'→m.testBit (sq (kt.hash prog w) k')=false→(∀q,k≤q→q < k'→m.testBit (sq (kt.hash prog w) q)=true∧kf (sq (kt.hash prog w) q)≠kt)→Q (.free (sq (kt.hash prog w) k') false) s)→
 wpAny (model prog w) A (setSearchFrom a x (kt.hash prog w) true F stand) Q X s:=by
 intro n
 induction n using Nat.strongRecOn with
 |ind n ih=>
  intro k F stand Q hf hF hn hst there free
  obtain ⟨F,rfl⟩:∃f,F=f+1:=⟨F - 1,by omega⟩
  unfold setSearchFrom
  refine wpAny_bind (wpAny_setState_of S.get S.data S.fits ?_)
  dsimp only
  have gw:t.gaveWay=false:=by
   unfold SetTable.gaveWay
   rw [S.tb.mask]
   rfl
  rw [gw]
  simp only [yA,if_false]
  rw [hst]
  have h10:10*SetTable.turns t.mask=220:=by rw [S.tb.mask];rfl
  have key:=qC S.tb (fun i=>(es[i]?.map (·.1)).getD 0) (kt.hash prog w) n k (10*SetTable.turns t.mask) hf (by omega)
  rcases key with ⟨k1,a1,a2,a3,a4,a5⟩|⟨k1,i,a1,a2,a3,a4,a5,a6,a7⟩
  · have hp:∀g:Nat→Int,g=(fun i=>(es[i]?.map (·.1)).getD 0)→t.probe g (kt.hash prog w) (prb k (kt.hash prog w))=some (.empty (sq (kt.hash prog w) k1) none):=fun g e=>by
     subst e
     exact a3
    rw [hp]
    rotate_left
    · rfl
    refine wpAny_pure (free k1 a1 a4 fun q h1 h2=> ?_)
    obtain ⟨b1,b2⟩:=a5 q h1 h2
    refine ⟨b1,fun z=> ?_⟩
    obtain ⟨i,_,hi⟩:=g9 S.tb (fE _ q) b1
    have:=b2 i hi
    rw [S.get_at hi] at this
    exact this (by show (E _).1=_;rw [(D.at_ _ b1).2.2.2,z])
  · have hp:∀g:Nat→Int,g=(fun i=>(es[i]?.map (·.1)).getD 0)→t.probe g (kt.hash prog w) (prb k (kt.hash prog w))=some (.candidate (sq (kt.hash prog w) k1) i (prb (k1+1) (kt.hash prog w))):=fun g e=>by
     subst e
     exact a3
    rw [hp]
    rotate_left
    · rfl
    have on:=wU a4
    obtain ⟨y1,y2,⟨b,y3⟩,y4⟩:=D.at_ _ on
    have gi:=S.get_at a4
    generalize hj:sq (kt.hash prog w) k1=j at*
    generalize hE:E j=ej at*
    obtain ⟨hy,y⟩:=ej
    dsimp only at y1 y3 y4 ⊢
    split
    · refine wpAny_bind (vI hxr hx hd (fun y' my=> ?_) ?_)
      · obtain ⟨⟨h',y''⟩,m1,e1⟩:=yV.mp my
        have m2:=(Array.mem_filter.mp (Array.mem_toList_iff.mp m1)).1
        have m3:(h',y'')∈(bts m).map E:=by rw [←S.es];exact Array.mem_toList_iff.mpr m2
        obtain ⟨j',mj',e'⟩:=yV.mp m3
        have oj:=(z9.mp mj').2
        obtain ⟨u1,u2,u3,_⟩:=D.at_ j' oj
        rw [e'] at u1 u3
        rw [←e1]
        exact ⟨_,u1,u2,u3⟩
      simp only [yA,if_false]
      rw [gi]
      dsimp only
      refine wpAny_bind (wpAny_holding ((rN 8 y2 (by omega) y1 hx) prog w X _ ?_))
      refine wpAny_bind (wpAny_setState_of S.get S.data S.fits ?_)
      dsimp only
      by_cases z:kf j=kt
      · rw [decide_eq_true z]
        simp only [Bool.and_self,if_true]
        exact wpAny_pure (there j on z)
      · rw [decide_eq_false z]
        simp only [Bool.and_false,yA,if_false]
        have sm:t.sameMemory t.moves t.mask=some true:=by
         unfold SetTable.sameMemory
         rw [if_pos (by simp)]
        rw [sm]
        simp only [if_true]
        rw [a6]
        dsimp only
        rw [gi]
        dsimp only
        rw [y3]
        refine wpAny_bind (wpAny_isSame_ref_self (wpAny_bind (wpAny_pure ?_)))
        simp only [if_true]
        refine ih (k+n - (k1+1)) (by omega) (k1+1) F (some _) (by rw [show k1+1+(k+n - (k1+1))=k+n by omega];exact hf) (by omega) (by omega) rfl there fun k' h1 h2 h3=> ?_
        refine free k' (by omega) h2 fun q hq1 hq2=> ?_
        rcases Nat.lt_trichotomy q k1 with c|c|c
        · obtain ⟨b1,b2⟩:=a7 q hq1 c
          refine ⟨b1,fun zz=> ?_⟩
          obtain ⟨i2,_,hi2⟩:=g9 S.tb (fE _ q) b1
          have:=b2 i2 hi2
          rw [S.get_at hi2] at this
          exact this (by show (E _).1=_;rw [(D.at_ _ b1).2.2.2,zz])
        · subst c
          rw [hj]
          exact ⟨on,z⟩
        · exact h3 q (by omega) hq2
    · rw [gi]
      dsimp only
      refine wpAny_bind (wpAny_holding ((rN 8 y2 (by omega) y1 hx) prog w X _ ?_))
      refine wpAny_bind (wpAny_setState_of S.get S.data S.fits ?_)
      dsimp only
      by_cases z:kf j=kt
      · rw [decide_eq_true z]
        simp only [Bool.and_self,if_true]
        exact wpAny_pure (there j on z)
      · rw [decide_eq_false z]
        simp only [Bool.and_false,yA,if_false]
        have sm:t.sameMemory t.moves t.mask=some true:=by
         unfold SetTable.sameMemory
         rw [if_pos (by simp)]
        rw [sm]
        simp only [if_true]
        rw [a6]
        dsimp only
        rw [gi]
        dsimp only
        rw [y3]
        refine wpAny_bind (wpAny_isSame_ref_self (wpAny_bind (wpAny_pure ?_)))
        simp only [if_true]
        refine ih (k+n - (k1+1)) (by omega) (k1+1) F (some _) (by rw [show k1+1+(k+n - (k1+1))=k+n by omega];exact hf) (by omega) (by omega) rfl there fun k' h1 h2 h3=> ?_
        refine free k' (by omega) h2 fun q hq1 hq2=> ?_
        rcases Nat.lt_trichotomy q k1 with c|c|c
        · obtain ⟨b1,b2⟩:=a7 q hq1 c
          refine ⟨b1,fun zz=> ?_⟩
          obtain ⟨i2,_,hi2⟩:=g9 S.tb (fE _ q) b1
          have:=b2 i2 hi2
          rw [S.get_at hi2] at this
          exact this (by show (E _).1=_;rw [(D.at_ _ b1).2.2.2,zz])
        · subst c
          rw [hj]
          exact ⟨on,z⟩
        · exact h3 q (by omega) hq2
end
open PySem PySem.Spec PyProof.Rows L2 Tk
theorem uC {m j:Nat} (hm:m < 256) (hj:j < 8) (hb:m.testBit j=false):bts (m |||2^j)=(bts m).take (SetTable.below (plc m) j)++j::(bts m).drop (SetTable.below (plc m) j):=by
 have h:=((jq hm hj).2 hb).1
 have h2:=congrArg Array.toList h
 rw [SetTable.toList_insertAt] at h2
 have e:(plc (m |||2^j)).toList=bts (m |||2^j):=by unfold plc;rfl
 have e2:(plc m).toList=bts m:=by unfold plc;rfl
 rw [e,e2] at h2
 rw [←h2]
theorem eD {m j i:Nat}:(m |||2^j).testBit i=(m.testBit i ||decide (j=i)):=by
 rw [Nat.testBit_or,Nat.testBit_two_pow]
theorem xz {m j:Nat} (hm:m < 256) (hj:j < 8):m |||2^j < 256:=by
 have:2^j < 2^8:=Nat.pow_lt_pow_right (by decide) hj
 exact Nat.or_lt_two_pow (n:=8) hm this
noncomputable def setE {α:Type} (E:Nat→α) (j:Nat) (x:α):Nat→α:=fun i=>if i=j then x else E i
section
variable {prog:Program} {w:World} {A:Around} {X:Value→Shared→Prop} {s:Shared} {a:Addr} {m:Nat} {E:Nat→Int×Value} {kf:Nat→KT} {o:Obj} {es:Array (Int×Value)} {ep:Nat} {t:SetTable} {b0:Bool}
theorem Sx.keep {h h':Heap} (D:Sx prog w h m E kf) (k:∀b o items n,h.get? b=some o→o.data= .seq items n→h'.get? b=some o):Sx prog w h' m E kf:=
 ⟨fun j hj=>⟨(D.at_ j hj).1.keep k,(D.at_ j hj).2⟩,D.way,D.inj⟩
theorem wY (S:Si b0 s.heap a m E o es ep t) (D:Sx prog w s.heap m E kf) (n3:(bts m).length≤3) {x:Value} {kt:KT} (hxr:∃c,x= .ref c) (hx:KAt s.heap x kt) (hd:kt.depth≤8) (hu:A.units+20 < cLine) {Q:Shared→Prop}
 (same:∀j,m.testBit j=true→kf j=kt→Q s)
 (new:∀j h',j < 8→m.testBit j=false→(∀i,m.testBit i=true→kf i≠kt)→Heap.SameBut a s.heap h'→(∃o es ep t,Si b0 h' a (m |||2^j) (setE E j (kt.hash prog w,x)) o es ep t)→Sx prog w h' (m |||2^j) (setE E j (kt.hash prog w,x)) (setE kf j kt)→(bts (m |||2^j)).length=(bts m).length+1→Q {s with heap:=h'}):
 wpAny (model prog w) A (setAddHashed a x (kt.hash prog w)) (fun _ s'=>Q s') X s:=by
 have m255:=wm S.tb.lt S.n4
 obtain ⟨k0,k21,kf0⟩:=uq (kt.hash prog w) m255
 unfold setAddHashed setAddHashedIn
 refine wpAny_holding (wpAny_bind (wpAny_setState_of S.get S.data S.fits ?_))
 dsimp only
 have nsc:byScan x es=false:=by
  obtain ⟨c,rfl⟩:=hxr
  rfl
 rw [nsc]
 simp only [yA,if_false]
 unfold setSearch
 refine wpAny_bind (oR S D hxr hx hd hu k0 0 100000 none (by rw [Nat.zero_add];exact kf0) (by omega) (by omega) (oO S.tb _) (fun j h1 h2=> ?_) fun k' _ h2 h3=> ?_)
 · exact wpAny_pure (same j h1 h2)
 · dsimp only
   refine wpAny_bind (wpAny_setState_of S.get S.data S.fits ?_)
   dsimp only
   generalize hj:sq (kt.hash prog w) k'=j at*
   have j8:j < 8:=by rw [←hj];exact fE _ _
   have nokey:∀i,m.testBit i=true→kf i≠kt:=fun i hi z=>by
    obtain ⟨kk,e1,e2⟩:=D.way i hi
    have eh:(E i).1=kt.hash prog w:=by rw [(D.at_ i hi).2.2.2,z]
    rw [eh] at e1 e2
    rcases Nat.lt_or_ge kk k' with c|c
    · have:=(h3 kk (yO _) c).2
      rw [e1] at this
      exact this z
    · rcases Nat.lt_or_ge k' kk with c2|c2
      · have:=e2 k' c2
        rw [hj,h2] at this
        cases this
      · have:kk=k':=by omega
        rw [this,hj] at e1
        rw [e1,hi] at h2
        cases h2
   have hput:=(jq S.tb.lt j8).2 h2
   have hbp:=uC S.tb.lt j8 h2
   have nlen:(bts (m |||2^j)).length=(bts m).length+1:=by
    rw [hbp,yt,yC,yN,yZ]
    omega
   have hpe:t.put j=({t with place:=plc (m |||2^j)},SetTable.below (plc m) j):=by
    have hd0:SetTable.has t.dummies j=false:=by
     rw [S.tb.dum]
     unfold SetTable.has
     simp [SetTable.below,SetTable.below.go]
    unfold SetTable.put
    dsimp only
    rw [S.tb.place,hput.1,hd0]
    rfl
   rw [hpe]
   dsimp only
   have notin:∀i∈bts m,i≠j:=fun i mi z=>by
    have:=(z9.mp mi).2
    rw [z,h2] at this
    cases this
   have hes:(SetTable.insertAt es (SetTable.below (plc m) j) (kt.hash prog w,x)).toList=(bts (m |||2^j)).map (setE E j (kt.hash prog w,x)):=by
    rw [SetTable.toList_insertAt,S.es,hbp,zh,yD]
    have e1:∀l:List Nat,(∀i∈l,i≠j)→l.map (setE E j (kt.hash prog w,x))=l.map E:=fun l hl=>List.map_congr_left fun i mi=>if_neg (hl i mi)
    rw [e1 _ fun i mi=>notin i (List.mem_of_mem_take mi),e1 _ fun i mi=>notin i (List.mem_of_mem_drop mi),List.map_take,List.map_drop]
    simp [setE]
   have fin:∀pl:Bool,wpAny (model prog w) A (do
    storeSet a (SetTable.insertAt es (SetTable.below (plc m) j) (kt.hash prog w,x)) {t with place:=plc (m |||2^j),plain:=pl}
    if (!false&& ({t with place:=plc (m |||2^j),plain:=pl}:SetTable).tooFull)=true then do
     setRelay a (SetTable.grown (es.size+1))
     pure true
    else pure true) (fun _ s'=>Q s') X s:=by
    intro pl
    have hsz:(SetTable.insertAt es (SetTable.below (plc m) j) (kt.hash prog w,x)).size≤sizeLine:=by
     rw [←yy,hes,yo,nlen,sizeLine_eq]
     omega
    refine wpAny_bind (wpAny_storeSet_of S.get S.data ?_ hsz)
    have nf:({t with place:=plc (m |||2^j),plain:=pl}:SetTable).tooFull=false:=by
     unfold SetTable.tooFull SetTable.fill
     rw [S.tb.mask,S.tb.dum]
     simp only [plc,yp,nlen]
     refine decide_eq_false ?_
     show¬((bts m).length+1+0)*5≥7*3
     omega
    rw [nf]
    simp only [Bool.not_false,Bool.and_false,yA,if_false]
    refine wpAny_pure (new j _ j8 h2 nokey (Heap.SameBut.update ..) ⟨{o with data:= .set (SetTable.insertAt es (SetTable.below (plc m) j) (kt.hash prog w,x)) (ep+1) {t with place:=plc (m |||2^j),plain:=pl}},SetTable.insertAt es (SetTable.below (plc m) j) (kt.hash prog w,x),ep+1,{t with place:=plc (m |||2^j),plain:=pl},?_⟩ ?_ nlen)
    · have hg:(s.heap.update a (Obj.putSet (SetTable.insertAt es (SetTable.below (plc m) j) (kt.hash prog w,x)) {t with place:=plc (m |||2^j),plain:=pl})).get? a=some {o with data:= .set (SetTable.insertAt es (SetTable.below (plc m) j) (kt.hash prog w,x)) (ep+1) {t with place:=plc (m |||2^j),plain:=pl}}:=by
       have:=Heap.get?_update_self (Obj.putSet (SetTable.insertAt es (SetTable.below (plc m) j) (kt.hash prog w,x)) {t with place:=plc (m |||2^j),plain:=pl}) S.get (by rw [putSet_of _ _ S.data];rfl)
       rw [putSet_of _ _ S.data] at this
       exact this
      exact ⟨S.led,hg,S.ex,rfl,hes,⟨S.tb.mask,rfl,S.tb.dum,xz S.tb.lt j8⟩,by omega⟩
    · have kp:∀b ob items n,s.heap.get? b=some ob→ob.data= .seq items n→(s.heap.update a (Obj.putSet (SetTable.insertAt es (SetTable.below (plc m) j) (kt.hash prog w,x)) {t with place:=plc (m |||2^j),plain:=pl})).get? b=some ob:=fun b ob items n e dd=>by
       have ne:b≠a:=fun z=>by
        rw [z,S.get] at e
        cases e
        rw [S.data] at dd
        cases dd
       exact (Heap.get?_update_other _ _ (Ne.symm ne)).trans e
      have D':=D.keep kp
      refine ⟨fun i hi=> ?_,fun i hi=> ?_,fun i i' hi hi' he=> ?_⟩
      · rw [eD] at hi
        by_cases z:i=j
        · subst z
          simp only [setE,if_true]
          exact ⟨hx.keep kp,hd,hxr,trivial⟩
        · simp only [setE,if_neg z]
          exact D'.at_ i (by simpa [Ne.symm z] using hi)
      · rw [eD] at hi
        have up:∀q,m.testBit q=true→(m |||2^j).testBit q=true:=fun q hq=>by rw [eD,hq];rfl
        by_cases z:i=j
        · subst z
          simp only [setE,if_true]
          exact ⟨k',hj,fun q hq=>up _ (h3 q (yO _) hq).1⟩
        · simp only [setE,if_neg z]
          obtain ⟨kk,e1,e2⟩:=D.way i (by simpa [Ne.symm z] using hi)
          exact ⟨kk,e1,fun q hq=>up _ (e2 q hq)⟩
      · rw [eD] at hi hi'
        by_cases z:i=j
        · by_cases z':i'=j
          · rw [z,z']
          · rw [z] at he
            simp only [setE,if_true,if_neg z'] at he
            exact absurd he.symm (nokey i' (by simpa [Ne.symm z'] using hi'))
        · by_cases z':i'=j
          · rw [z'] at he
            simp only [setE,if_true,if_neg z] at he
            exact absurd he (nokey i (by simpa [Ne.symm z] using hi))
          · simp only [setE,if_neg z,if_neg z'] at he
            exact D.inj i i' (by simpa [Ne.symm z] using hi) (by simpa [Ne.symm z'] using hi') he
   split
   · refine wpAny_bind (wL 8 hx fun bb=> ?_)
     cases bb with
     |true=>exact fin t.plain
     |false=>exact fin false
   · refine wpAny_bind (wpAny_pure ?_)
     exact fin t.plain
end
open PySem PySem.Spec PyProof.Rows L2 Tk
theorem rR {prog:Program} {w:World} {A:Around} {X:Value→Shared→Prop} {s:Shared} {src:Source} {n:Nat} {Q:Nat→Shared→Prop} (hn:n≠0) (q:∀i d,i < n→Q i {s with drawn:=d}):wpAny (model prog w) A (choose src n) Q X s:=by
 intro Γ p h
 show Sem.wp _ _ (.choose src n .pure) _ _ _ _
 rw [Sem.wp_choose]
 refine ⟨hn,?_⟩
 rw [Sem.wp_pure]
 exact q _ _ (Nat.mod_lt _ (by omega))
theorem i4 {α:Type}:∀(l:List α) (i:Nat) (h:i < l.length),(l[i]::l.eraseIdx i).Perm l
 | [],i,h=>by cases h
 |x::l,0,h=>List.Perm.refl _
 |x::l,i+1,h=>by
  have ih:=i4 l i (Nat.lt_of_succ_lt_succ h)
  exact (List.Perm.swap _ _ _).trans (ih.cons x)
theorem order_any {α:Type} {prog:Program} {w:World} {A:Around} {X:Value→Shared→Prop}:∀(n:Nat) (xs:List α) {s:Shared} {Q:List α→Shared→Prop},xs.length=n→(∀ys d,ys.Perm xs→Q ys {s with drawn:=d})→wpAny (model prog w) A (drawOrder n xs) Q X s
 |0,xs,s,Q,hl,q=>by
  unfold drawOrder
  have:xs= []:=List.length_eq_zero_iff.mp hl
  subst this
  exact wpAny_pure (q [] s.drawn (List.Perm.refl _))
 |n+1,[],s,Q,hl,q=>by cases hl
 |n+1,x::xs,s,Q,hl,q=>by
  unfold drawOrder
  refine wpAny_bind (rR (by simp) fun i d hi=> ?_)
  rw [yj hi]
  dsimp only
  have el:((x::xs).eraseIdx i).length=n:=by rw [List.length_eraseIdx,if_pos hi,hl];rfl
  refine wpAny_bind (order_any n _ (s:= {s with drawn:=d}) el fun ys d' hp=>wpAny_pure (q _ d' ?_))
  have h1:((x::xs)[i]::ys).Perm ((x::xs)[i]::(x::xs).eraseIdx i):=hp.cons _
  exact h1.trans (i4 _ _ hi)
theorem pick_perm {α:Type} (next:Nat→Nat) (xs:Array α):(pickOrder next xs).toList.Perm xs.toList:=by
 have go:∀(fuel k:Nat) (left:List α) (out:Array α),left.length≤fuel→(pickOrder.go next fuel k left out).toList.Perm (out.toList++left):=by
  intro fuel
  induction fuel with
  |zero=>
   intro k left out h
   have:left= []:=List.length_eq_zero_iff.mp (by omega)
   subst this
   unfold pickOrder.go
   simp
  |succ fuel ih=>
   intro k left out h
   unfold pickOrder.go
   cases left with
   |nil=>simp
   |cons x l=>
    have hi:next k%(x::l).length < (x::l).length:=Nat.mod_lt _ (by simp)
    rw [yj hi]
    dsimp only
    refine (ih _ _ _ ?_).trans ?_
    · rw [List.length_eraseIdx,if_pos hi]
      simp only [yC] at h ⊢
      omega
    · rw [Array.toList_push,List.append_assoc]
      refine List.Perm.append_left _ ?_
      exact i4 _ _ hi
 unfold pickOrder
 have:=go xs.size 0 xs.toList #[] (by simp)
 simpa using this
end St8
namespace Sn
open PySem PySem.Spec PyProof.Rows
def Up (l:List Nat):Prop:=l.Pairwise (· < ·)
theorem Up.le {l:List Nat} (h:Up l) {i j x y:Nat} (hi:l[i]?=some x) (hj:l[j]?=some y) (hij:i≤j):x≤y:=by
 obtain ⟨h1,e1⟩:=yF.mp hi
 obtain ⟨h2,e2⟩:=yF.mp hj
 rcases Nat.lt_or_ge i j with c|c
 · have:=zd.mp h i j h1 h2 c
   omega
 · have:i=j:=by omega
   subst this
   omega
theorem i7 (xs:Array Nat) (j:Nat) (up:Up xs.toList):∀(fuel lo hi:Nat),hi - lo≤fuel→lo≤hi→hi≤xs.size→(∀i x,i < lo→xs.toList[i]?=some x→x < j)→(∀i x,hi≤i→xs.toList[i]?=some x→j≤x)→
 SetTable.below.go xs j fuel lo hi≤xs.size∧(∀i x,i < SetTable.below.go xs j fuel lo hi→xs.toList[i]?=some x→x < j)∧(∀i x,SetTable.below.go xs j fuel lo hi≤i→xs.toList[i]?=some x→j≤x)
 |0,lo,hi,hf,h1,h2,h3,h4=>by
  have:lo=hi:=by omega
  subst this
  unfold SetTable.below.go
  exact ⟨h2,h3,h4⟩
 |fuel+1,lo,hi,hf,h1,h2,h3,h4=>by
  unfold SetTable.below.go
  by_cases c:lo < hi
  · rw [if_pos c]
    have hm:(lo+hi) / 2 < xs.size:=by omega
    have em:xs.getD ((lo+hi) / 2) j=xs[(lo+hi) / 2]:=by rw [zw,yM hm];rfl
    have el:xs.toList[(lo+hi) / 2]?=some xs[(lo+hi) / 2]:=by rw [yK,yM hm]
    dsimp only
    rw [em]
    by_cases d:xs[(lo+hi) / 2] < j
    · rw [if_pos d]
      refine i7 xs j up fuel _ _ (by omega) (by omega) h2 (fun i x hi' e=> ?_) h4
      have:=up.le e el (by omega)
      omega
    · rw [if_neg d]
      refine i7 xs j up fuel _ _ (by omega) (by omega) (by omega) h3 fun i x hi' e=> ?_
      have:=up.le el e (by omega)
      omega
  · rw [if_neg c]
    have:lo=hi:=by omega
    subst this
    exact ⟨h2,h3,h4⟩
theorem sv {xs:Array Nat} (up:Up xs.toList) (j:Nat):SetTable.below xs j≤xs.size∧(∀i x,i < SetTable.below xs j→xs.toList[i]?=some x→x < j)∧(∀i x,SetTable.below xs j≤i→xs.toList[i]?=some x→j≤x):=by
 unfold SetTable.below
 refine i7 xs j up _ _ _ (by omega) (yO _) (yl _) (fun i x h _=>by omega) fun i x h e=> ?_
 have:=(yF.mp e).1
 rw [yy] at this
 omega
theorem qt (n:Nat):Up (List.range n):=List.pairwise_lt_range
theorem pU (t:SetTable) (n:Nat):Up (t.standIn n).place.toList:=by
 show Up (Array.range n).toList
 rw [Array.toList_range]
 exact qt n
structure Tk (b:Bool) (t:SetTable):Prop where
 led:t.led=b
 up:Up t.place.toList
theorem Tk.stand {b:Bool} {t:SetTable} (h:Tk b t) (n:Nat):Tk b (t.standIn n):=⟨h.led,pU t n⟩
open PySem PySem.Spec PyProof.Rows
def nOf:Value→Int
 | .int n _=>n
 |_=>0
def Ies (prog:Program) (w:World) (l:List (Int×Value)):Prop:=∀e∈l,∃n t,e=((intKind prog w).hash n, .int n t)
def nums (l:List (Int×Value)):List Int:=l.map fun e=>nOf e.2
structure Es (prog:Program) (w:World) (l:List (Int×Value)) (S:List Int):Prop where
 ies:Ies prog w l
 mem:∀n,n∈nums l↔n∈S
 nd:(nums l).Nodup
 len:l.length≤S.length
def Ni (prog:Program) (w:World) (h:Heap) (a:Addr) (b:Bool) (S:List Int):Prop:=
 ∃o es ep t,h.get? a=some o∧o.ExactSet∧o.data= .set es ep t∧t.fits es.size=true∧Tk b t∧Es prog w es.toList S
section
variable {prog:Program} {w:World} {A:Around} {X:Value→Shared→Prop} {s:Shared} {a:Addr} {b:Bool} {S:List Int}
theorem Es.more {l:List (Int×Value)} (h:Es prog w l S) {n:Int} {tk:Nat} (hn:n∉nums l):Es prog w (l++ [((intKind prog w).hash n, .int n tk)]) (S++ [n]):=by
 have en:nums (l++ [((intKind prog w).hash n,Value.int n tk)])=nums l++ [n]:=by unfold nums;rw [zh];rfl
 refine ⟨fun e m=> ?_,fun k=> ?_,?_,?_⟩
 · rcases yx.mp m with m|m
   · exact h.ies e m
   · rw [yv] at m
     exact ⟨n,tk,m⟩
 · rw [en,yx,yx,h.mem k]
 · rw [en]
   refine List.nodup_append.mpr ⟨h.nd,by simp,fun x m y m'=> ?_⟩
   rw [yv] at m'
   subst m'
   exact fun z=>hn (z▸m)
 · have:=h.len
   simp only [yt,yJ]
   omega
end
open PySem PySem.Spec PyProof.Rows
theorem si_next:Slot "set_iterator" "__next__" "set_iterator.__next__":=
 .of (owner:="set_iterator") (n:="__next__") (by rw [typeLookup_type,builtinLookup_eq_fast];kernel_rfl) (by decide +kernel) (by decide +kernel) (by decide +kernel)
  (by first|exact .inl (by decide +kernel)|exact .inr (by decide +kernel)) (by rw [isSubtype_type];kernel_rfl)
theorem ng:Slot "set_iterator" "__iter__" "set_iterator.__iter__":=
 .of (owner:="set_iterator") (n:="__iter__") (by rw [typeLookup_type,builtinLookup_eq_fast];kernel_rfl) (by decide +kernel) (by decide +kernel) (by decide +kernel)
  (by first|exact .inl (by decide +kernel)|exact .inr (by decide +kernel)) (by rw [isSubtype_type];kernel_rfl)
theorem gn:entryFor table "set_iterator.__next__"=some Builtin.«set_iterator.__next__»:=entryFor_of_tree (by kernel_rfl)
theorem uw:entryFor table "set_iterator.__iter__"=some Builtin.«dict_keyiterator.__iter__»:=
 entryFor_alias (id':="dict_keyiterator.__iter__") (by kernel_rfl) rfl (by decide +kernel) (by kernel_rfl)
theorem la:entryFor table "set.__iter__"=some Builtin.«frozenset.__iter__»:=
 entryFor_alias (id':="frozenset.__iter__") (by kernel_rfl) rfl (by decide +kernel) (by kernel_rfl)
theorem uX:Manifest.owners.lookup (String.ofList ['r','o','t','a','r','e','t','i','_','t','e','s'].reverse)=some Manifest.sig_set_iterator:=by kernel_rfl
theorem gx (a:Value):argsOk "set_iterator.__next__" ⟨[a],[]⟩:=by
 unfold argsOk;rw [signature?_of (id:="set_iterator.__next__") (n:= ['_','_','t','x','e','n','_','_']) (o:= ['r','o','t','a','r','e','t','i','_','t','e','s']) (by kernel_rfl) uX];kernel_rfl
theorem uF (a:Value):argsOk "set_iterator.__iter__" ⟨[a],[]⟩:=by
 unfold argsOk;rw [signature?_of (id:="set_iterator.__iter__") (n:= ['_','_','r','e','t','i','_','_']) (o:= ['r','o','t','a','r','e','t','i','_','t','e','s']) (by kernel_rfl) uX];kernel_rfl
structure RS (h:Heap) (a:Addr) (es:Array (Int×Value)) (ep:Nat) (t:SetTable):Prop where
 ex:∃o,h.get? a=some o∧o.ExactSet∧o.data= .set es ep t
 fits:t.fits es.size=true
theorem RS.kp {h h':Heap} {a:Addr} {es:Array (Int×Value)} {ep:Nat} {t:SetTable} (x:RS h a es ep t) (e:∀o,h.get? a=some o→h'.get? a=some o):RS h' a es ep t:=by
 obtain ⟨⟨o,h1,h2⟩,f⟩:=x
 exact ⟨⟨o,e o h1,h2⟩,f⟩
def It (h:Heap) (I a:Addr) (first:Value) (i n ep:Nat):Prop:=∃o,h.get? I=some o∧o.cls= .type "set_iterator"∧o.data= .fields #[first, .int i 0, .ref a, .int n 0, .int ep 0]
theorem It.kp {h h':Heap} {I a:Addr} {first:Value} {i n ep:Nat} (x:It h I a first i n ep) (e:∀o,h.get? I=some o→h'.get? I=some o):It h' I a first i n ep:=by
 obtain ⟨o,h1,h2⟩:=x
 exact ⟨o,e o h1,h2⟩
section
variable {prog:Program} {w:World} {A:Around} {E:Value→Shared→Prop} {s:Shared} {a I:Addr} {es:Array (Int×Value)} {ep:Nat} {t:SetTable}
theorem RS.ty (x:RS s.heap a es ep t):s.TypeIs (.ref a) "set":=by
 obtain ⟨⟨o,h1,h2,_⟩,_⟩:=x
 exact ⟨o,h1,h2.1⟩
theorem It.ty {first:Value} {i n:Nat} (x:It s.heap I a first i n ep):s.TypeIs (.ref I) "set_iterator":=by
 obtain ⟨o,h1,h2,_⟩:=x
 exact ⟨o,h1,h2⟩
theorem nW {first:Value} {i n:Nat} {Q:Value→Shared→Prop} (x:It s.heap I a first i n ep) (q:Q (.ref I) s):wpAny (model prog w) A (pyIter (.ref I)) Q E s:=by
 refine wpAny_pyIter_slot x.ty ng (wpAny_call_entry ng x.ty uw ?_ (uF _))
 show wpAny _ _ (ret (.ref I)) _ _ s
 exact wpAny_pure ⟨_,rfl,"set_iterator",_,x.ty,si_next.lookup,q⟩
theorem ug {k i:Nat} {x:Value} {nx:Nat} {Q:Option Value→Shared→Prop} (hit:It s.heap I a (.int k 0) i es.size ep) (hm:RS s.heap a es ep t)
 (hn:∀(A:Around) (E:Value→Shared→Prop) (R:Option (Value×Nat)→Shared→Prop),R (some (x,nx)) s→wpAny (model prog w) A (setNext a k i ep) R E s)
 (hQ:∀h',It h' I a (.int nx 0) (i+1) es.size ep→Heap.SameBut I s.heap h'→Q (some x) {s with heap:=h'}):wpAny (model prog w) A (pyNext (.ref I)) Q E s:=by
 obtain ⟨o,ho,hc,hd⟩:=id hit
 obtain ⟨⟨od,hod,hcd,hdd⟩,hf⟩:=id hm
 unfold pyNext
 refine wpAny_bind (wpAny_attempt (wpAny_callSpecial?_slot (name:=Str.ofString "__next__") hit.ty si_next (wpAny_call_entry si_next hit.ty gn ?_ (gx _))))
 unfold Builtin.«set_iterator.__next__»
 refine wpAny_bind (wpAny_pure ?_)
 refine wpAny_bind (wpAny_fieldsOf ho hd ?_)
 dsimp only
 refine wpAny_bind (wpAny_setEntries_of hod hdd hf ?_)
 rw [if_neg (by simp)]
 rw [yT,yT,yT]
 refine wpAny_bind (hn _ _ _ ?_)
 dsimp only
 refine wpAny_bind (wpAny_setField ho hd (by simp) ?_)
 have hd1:(Obj.mapFields (·.setIfInBounds 0 (rawInt nx)) o).data= .fields #[.int nx 0, .int i 0, .ref a, .int es.size 0, .int ep 0]:=by rw [Obj.data_mapFields hd];simp [rawInt]
 have hg1:(s.heap.update I (Obj.mapFields (·.setIfInBounds 0 (rawInt nx)))).get? I=some (Obj.mapFields (·.setIfInBounds 0 (rawInt nx)) o):=Heap.get?_update_self _ ho (Obj.isFreed_of_fields hd1)
 refine wpAny_bind (wpAny_setField hg1 hd1 (by simp) ?_)
 refine wpAny_pure ⟨_,rfl,wpAny_pure (hQ _ ⟨_,Heap.get?_update_self _ hg1 (Obj.isFreed_of_fields (Obj.data_mapFields hd1 _)),(Obj.cls_mapFields ..).trans ((Obj.cls_mapFields ..).trans hc),?_⟩ ((Heap.SameBut.update ..).trans (Heap.SameBut.update ..)))⟩
 rw [Obj.data_mapFields hd1]
 simp [rawInt]
theorem pS {Q:Option Value→Shared→Prop} {h1:Heap} (hh:A.handled=none) (hs:Heap.SameBut I s.heap h1) (hQ:∀h',Heap.ExtBut I s.heap h'→Q none {s with heap:=h'}):
 wpAny (model prog w) A.in1 (newExc (.type "StopIteration") [] >>=fun e=>raiseNew (α:=Fin) e) (fun fin s'=>∃v,fin=Fin.done (Flow.ret v)∧wpAny (model prog w) A (pure (some v)) Q E s') (fun e s'=>wpAny (model prog w) A (do if (←isInstance e (Value.type "StopIteration"))=true then pure none else throw e) Q E s') {s with heap:=h1}:=by
 refine wpAny_bind ?_
 simp only [newExc,newTuple]
 refine wpAny_bind (wpAny_newObj_type (wpAny_bind (m:=firstArgMember _ _) (wpAny_of_eq (a:=Value.none) (by first|rfl|(simp only [firstArgMember];rfl)) (wpAny_newObj_type ?_ (by size_fits)))) (by size_fits))
 simp only [raiseNew]
 refine wpAny_bind (wpAny_handled ?_)
 rw [show A.in1.handled=none from hh]
 refine wpAny_bind (wpAny_pure (wpAny_throw ?_))
 refine wpAny_bind (wpAny_isInstance (T:="StopIteration") (b:=true) ⟨_,Heap.get?_push_size _ rfl,rfl⟩ isSubtype_stop ?_)
 exact wpAny_pure (hQ _ ((hs.extBut.push _).push _))
theorem wJ {k i:Nat} {Q:Option Value→Shared→Prop} (hh:A.handled=none) (hit:It s.heap I a (.int k 0) i es.size ep) (hm:RS s.heap a es ep t)
 (hn:∀(A:Around) (E:Value→Shared→Prop) (R:Option (Value×Nat)→Shared→Prop),R none s→wpAny (model prog w) A (setNext a k i ep) R E s)
 (hQ:∀h',Heap.ExtBut I s.heap h'→Q none {s with heap:=h'}):wpAny (model prog w) A (pyNext (.ref I)) Q E s:=by
 obtain ⟨o,ho,hc,hd⟩:=id hit
 obtain ⟨⟨od,hod,hcd,hdd⟩,hf⟩:=id hm
 unfold pyNext
 refine wpAny_bind (wpAny_attempt (wpAny_callSpecial?_slot (name:=Str.ofString "__next__") hit.ty si_next (wpAny_call_entry si_next hit.ty gn ?_ (gx _))))
 unfold Builtin.«set_iterator.__next__»
 refine wpAny_bind (wpAny_pure ?_)
 refine wpAny_bind (wpAny_fieldsOf ho hd ?_)
 dsimp only
 refine wpAny_bind (wpAny_setEntries_of hod hdd hf ?_)
 rw [if_neg (by simp)]
 rw [yT,yT,yT]
 refine wpAny_bind (hn _ _ _ ?_)
 dsimp only
 refine wpAny_bind (wpAny_setField ho hd (by simp) ?_)
 exact pS hh (Heap.SameBut.update ..) hQ
theorem rE {i:Nat} {T:Addr} {oT:Obj} {ps:Array Value} {c p:Nat} {e:Int×Value} {Q:Option Value→Shared→Prop} (hit:It s.heap I a (.ref T) i es.size ep) (hm:RS s.heap a es ep t) (hT:s.heap.get? T=some oT) (hTd:oT.data= .seq ps c)
 (hp:ps[i]?=some (.int p 0)) (he:es[p]?=some e)
 (hQ:∀h',It h' I a (.ref T) (i+1) es.size ep→Heap.SameBut I s.heap h'→Q (some e.2) {s with heap:=h'}):wpAny (model prog w) A (pyNext (.ref I)) Q E s:=by
 obtain ⟨o,ho,hc,hd⟩:=id hit
 obtain ⟨⟨od,hod,hcd,hdd⟩,hf⟩:=id hm
 unfold pyNext
 refine wpAny_bind (wpAny_attempt (wpAny_callSpecial?_slot (name:=Str.ofString "__next__") hit.ty si_next (wpAny_call_entry si_next hit.ty gn ?_ (gx _))))
 unfold Builtin.«set_iterator.__next__»
 refine wpAny_bind (wpAny_pure ?_)
 refine wpAny_bind (wpAny_fieldsOf ho hd ?_)
 dsimp only
 refine wpAny_bind (wpAny_setEntries_of hod hdd hf ?_)
 rw [if_neg (by simp)]
 refine wpAny_bind (wpAny_seqItems hT hTd ?_)
 dsimp only
 rw [yT,hp]
 dsimp only
 refine wpAny_bind ?_
 unfold setNextDrawn
 refine wpAny_bind (wpAny_setState_of hod hdd hf ?_)
 dsimp only
 rw [if_neg (by simp),yT,he]
 dsimp only
 refine wpAny_pure ?_
 refine wpAny_bind (wpAny_setField ho hd (by simp) ?_)
 refine wpAny_pure ⟨_,rfl,wpAny_pure (hQ _ ⟨_,Heap.get?_update_self _ ho (Obj.isFreed_of_fields (Obj.data_mapFields hd _)),(Obj.cls_mapFields ..).trans hc,?_⟩ (Heap.SameBut.update ..))⟩
 rw [Obj.data_mapFields hd]
 simp [rawInt]
theorem uh {i:Nat} {T:Addr} {oT:Obj} {ps:Array Value} {c:Nat} {Q:Option Value→Shared→Prop} (hh:A.handled=none) (hit:It s.heap I a (.ref T) i es.size ep) (hm:RS s.heap a es ep t) (hT:s.heap.get? T=some oT) (hTd:oT.data= .seq ps c)
 (hp:ps[i]?=none) (hQ:∀h',Heap.ExtBut I s.heap h'→Q none {s with heap:=h'}):wpAny (model prog w) A (pyNext (.ref I)) Q E s:=by
 obtain ⟨o,ho,hc,hd⟩:=id hit
 obtain ⟨⟨od,hod,hcd,hdd⟩,hf⟩:=id hm
 unfold pyNext
 refine wpAny_bind (wpAny_attempt (wpAny_callSpecial?_slot (name:=Str.ofString "__next__") hit.ty si_next (wpAny_call_entry si_next hit.ty gn ?_ (gx _))))
 unfold Builtin.«set_iterator.__next__»
 refine wpAny_bind (wpAny_pure ?_)
 refine wpAny_bind (wpAny_fieldsOf ho hd ?_)
 dsimp only
 refine wpAny_bind (wpAny_setEntries_of hod hdd hf ?_)
 rw [if_neg (by simp)]
 refine wpAny_bind (wpAny_seqItems hT hTd ?_)
 dsimp only
 rw [yT,hp]
 dsimp only
 refine wpAny_bind (wpAny_setField ho hd (by simp) ?_)
 have hd1:(Obj.mapFields (·.setIfInBounds 0 (rawInt 0)) o).data= .fields #[.int 0 0, .int i 0, .ref a, .int es.size 0, .int ep 0]:=by rw [Obj.data_mapFields hd];simp [rawInt]
 have hg1:(s.heap.update I (Obj.mapFields (·.setIfInBounds 0 (rawInt 0)))).get? I=some (Obj.mapFields (·.setIfInBounds 0 (rawInt 0)) o):=Heap.get?_update_self _ ho (Obj.isFreed_of_fields hd1)
 refine wpAny_bind (wpAny_setField hg1 hd1 (by simp) ?_)
 exact pS (s:=s) hh ((Heap.SameBut.update ..).trans (Heap.SameBut.update ..)) hQ
theorem eI {Q:Bool→Shared→Prop} (q:Q (w.params.followText "set-order") s):wpAny (model prog w) A setsByText Q E s:=by
 unfold setsByText
 exact wpAny_bind (wpAny_askSetting (wpAny_pure q))
theorem iL {k i:Nat} {R:Option (Value×Nat)→Shared→Prop} (hb:w.params.followText "set-order"=true) (hm:RS s.heap a es ep t) (r:R (((pickOrder (w.params.setOrder a ep) es)[i]?).map fun e=>(e.2,k)) s):wpAny (model prog w) A (setNext a k i ep) R E s:=by
 obtain ⟨⟨od,hod,hcd,hdd⟩,hf⟩:=id hm
 unfold setNext
 refine wpAny_bind (wpAny_setState_of hod hdd hf ?_)
 dsimp only
 refine wpAny_bind (eI ?_)
 rw [hb]
 simp only [if_true]
 rw [if_neg (by simp)]
 refine wpAny_bind ?_
 unfold setWalk
 refine wpAny_bind (wpAny_setState_of hod hdd hf ?_)
 dsimp only
 refine wpAny_bind (eI ?_)
 rw [hb]
 simp only [if_true]
 refine wpAny_bind (wpAny_askSetting (wpAny_pure (wpAny_pure ?_)))
 exact r
theorem hJ {k i:Nat} {R:Option (Value×Nat)→Shared→Prop} (hb:w.params.followText "set-order"=false) (hp:(!t.plain&&decide (es.size > 1))=false) (hl:t.led=true) (hm:RS s.heap a es ep t)
 (r:R (match es[SetTable.below t.place k]?,t.place[SetTable.below t.place k]? with|some (_,x),some j=>some (x,j+1)|_,_=>none) s):wpAny (model prog w) A (setNext a k i ep) R E s:=by
 obtain ⟨⟨od,hod,hcd,hdd⟩,hf⟩:=id hm
 unfold setNext
 refine wpAny_bind (wpAny_setState_of hod hdd hf ?_)
 dsimp only
 refine wpAny_bind (eI ?_)
 rw [hb]
 simp only [yA,if_false]
 show wpAny _ _ (if (!t.plain&&decide (es.size > 1))=true then _ else _) _ _ s
 rw [hp]
 simp only [yA,if_false]
 show wpAny _ _ ((if (!t.led&& !es.isEmpty)=true then _ else pure ()) >>=_) _ _ s
 rw [hl]
 simp only [Bool.not_true,Bool.false_and,yA,if_false]
 refine wpAny_bind (wpAny_pure (wpAny_pure ?_))
 exact r
end
open PySem PySem.Spec PyProof.Rows
noncomputable def kk (p:Array Nat) (i:Nat):Nat:=if i=0 then 0 else p.getD (i - 1) 0+1
theorem lD {p:Array Nat} (up:Up p.toList) {i:Nat} (hi:i≤p.size):SetTable.below p (kk p i)=i:=by
 obtain ⟨h1,h2,h3⟩:=sv up (kk p i)
 unfold kk at h1 h2 h3 ⊢
 by_cases z:i=0
 · subst z
   simp only [if_true] at h1 h2 h3 ⊢
   rcases Nat.eq_zero_or_pos (SetTable.below p 0) with e|e
   · exact e
   · have hl:0 < p.toList.length:=by rw [yy];omega
     have:=h2 0 p.toList[0] (by omega) (yj hl)
     omega
 · simp only [if_neg z] at h1 h2 h3 ⊢
   have hl:i - 1 < p.toList.length:=by rw [yy];omega
   have eg:p.getD (i - 1) 0=p.toList[i - 1]:=by
    rw [zw,←yK,yj hl]
    rfl
   generalize SetTable.below p (p.getD (i - 1) 0+1)=q at h1 h2 h3 ⊢
   rcases Nat.lt_trichotomy q i with c|c|c
   · have:=h3 (i - 1) _ (by omega) (yj hl)
     omega
   · exact c
   · have hl':i < p.toList.length:=by rw [yy];omega
     have h4:=h2 i _ c (yj hl')
     have h5:=zd.mp up (i - 1) i hl hl' (by omega)
     omega
section
variable {prog:Program} {w:World} {A:Around} {E:Value→Shared→Prop} {s:Shared} {a I:Addr} {es:Array (Int×Value)} {ep:Nat} {t:SetTable}
def NxS (prog:Program) (w:World) (a:Addr) (es:Array (Int×Value)) (ep:Nat) (t:SetTable) (vs:List Value) (kf:Nat→Nat):Prop:=
 (∀i v,vs[i]?=some v→∀(A:Around) (E:Value→Shared→Prop) (s:Shared) (R:Option (Value×Nat)→Shared→Prop),RS s.heap a es ep t→R (some (v,kf (i+1))) s→wpAny (model prog w) A (setNext a (kf i) i ep) R E s)∧
 (∀(A:Around) (E:Value→Shared→Prop) (s:Shared) (R:Option (Value×Nat)→Shared→Prop),RS s.heap a es ep t→R none s→wpAny (model prog w) A (setNext a (kf vs.length) vs.length ep) R E s)
theorem u6 (hb:w.params.followText "set-order"=true):NxS prog w a es ep t ((pickOrder (w.params.setOrder a ep) es).toList.map (·.2)) fun _=>0:=by
 refine ⟨fun i v hv A E s R hm r=>iL hb hm ?_,fun A E s R hm r=>iL hb hm ?_⟩
 · rw [yL] at hv
   obtain ⟨e,he,rfl⟩:=yR.mp hv
   rw [←yK,he]
   exact r
 · rw [←yK,yo,yQ (yl _)]
   exact r
theorem qW (hb:w.params.followText "set-order"=false) (hp:(!t.plain&&decide (es.size > 1))=false) (k:Tk true t) (hf:t.fits es.size=true):NxS prog w a es ep t (es.toList.map (·.2)) (kk t.place):=by
 have hz:t.place.size=es.size:=by
  unfold SetTable.fits at hf
  simp only [yH,beq_iff_eq] at hf
  exact hf.1
 refine ⟨fun i v hv A E s R hm r=>hJ hb hp k.led hm ?_,fun A E s R hm r=>hJ hb hp k.led hm ?_⟩
 · rw [yL] at hv
   obtain ⟨e,he,rfl⟩:=yR.mp hv
   have hi:i < es.size:=by
    have:=(yF.mp he).1
    rw [yy] at this
    exact this
   rw [lD k.up (by omega),←yK,he,yM (by omega:i < t.place.size)]
   have:kk t.place (i+1)=t.place[i]+1:=by
    unfold kk
    rw [if_neg (by omega),Nat.add_sub_cancel,zw,yM (by omega:i < t.place.size)]
    rfl
   rw [this] at r
   obtain ⟨h0,x⟩:=e
   exact r
 · rw [yo,yy,lD k.up (by omega),Array.getElem?_eq_none (yl _)]
   exact r
theorem uO {vs:List Value} {kf:Nat→Nat} (N:NxS prog w a es ep t vs kf) (hl:vs.length=es.size) (hh:A.handled=none) (hne:a≠I):
 Walks prog w A I [I,a] [I] es.size (fun i v=>vs[i]?=some v) (fun i h=>It h I a (.int (kf i) 0) i es.size ep∧RS h a es ep t) where
 sub:=fun b hb=>by simp at hb;simp [hb]
 frame:=fun _ _ _ st hk=>⟨st.1.kp fun o e=>hk I (by simp) o e,st.2.kp fun o e=>hk a (by simp) o e⟩
 item:=fun i s Q E hi st hQ=>by
  have hv:vs[i]?=some vs[i]:=yj (by omega)
  refine ug (x:=vs[i]) (nx:=kf (i+1)) st.1 st.2 (fun A E R r=>N.1 i _ hv A E s R st.2 r) fun h' hit' hs'=> ?_
  exact hQ _ h' s.toks hv ⟨hit',st.2.kp fun o e=>hs'.extBut a o hne e⟩ fun b o hb e=>hs'.extBut b o (fun h=>hb (by simp [h])) e
 done:=fun s Q E st hQ=>wJ hh st.1 st.2 (fun A E R r=>by rw [←hl];exact N.2 A E s R st.2 r) fun h' he'=>hQ h' s.toks fun b o hb e=>he' b o (fun h=>hb (by simp [h])) e
 self:=fun _ _ _ _ st hQ=>nW st.1 hQ
noncomputable def tupO (ys:List Nat):Obj:= {cls:= .type "tuple",data:= .seq (ys.map fun (i:Nat)=>rawInt i).toArray}
theorem wZ {T:Addr} {ys:List Nat} (hy:ys.Perm (List.range es.size)) (hh:A.handled=none) (hne:a≠I) (hnT:T≠I):
 Walks prog w A I [I,a,T] [I] es.size (fun i v=>∃p,ys[i]?=some p∧(es[p]?.map (·.2))=some v) (fun i h=>It h I a (.ref T) i es.size ep∧RS h a es ep t∧h.get? T=some (tupO ys)) where
 sub:=fun b hb=>by simp at hb;simp [hb]
 frame:=fun _ _ _ st hk=>⟨st.1.kp fun o e=>hk I (by simp) o e,st.2.1.kp fun o e=>hk a (by simp) o e,hk T (by simp) _ st.2.2⟩
 item:=fun i s Q E hi st hQ=>by
  have hl:ys.length=es.size:=by rw [hy.length_eq,ze]
  have hv:ys[i]?=some ys[i]:=yj (by omega)
  have hp:ys[i] < es.size:=yY.mp (hy.mem_iff.mp (zk _))
  refine rE (e:=es[ys[i]]) (p:=ys[i]) st.1 st.2.1 st.2.2 rfl ?_ (yM hp) fun h' hit' hs'=> ?_
  · rw [List.getElem?_toArray,yL,hv]
    rfl
  · exact hQ _ h' s.toks ⟨_,hv,by rw [yM hp];rfl⟩ ⟨hit',st.2.1.kp fun o e=>hs'.extBut a o hne e,hs'.extBut T _ hnT st.2.2⟩ fun b o hb e=>hs'.extBut b o (fun h=>hb (by simp [h])) e
 done:=fun s Q E st hQ=>by
  have hl:ys.length=es.size:=by rw [hy.length_eq,ze]
  refine uh hh st.1 st.2.1 st.2.2 rfl ?_ fun h' he'=>hQ h' s.toks fun b o hb e=>he' b o (fun h=>hb (by simp [h])) e
  rw [List.getElem?_toArray,yL,yQ (by omega)]
  rfl
 self:=fun _ _ _ _ st hQ=>nW st.1 hQ
noncomputable def itO (a:Addr) (first:Value) (n ep:Nat):Obj:= {cls:= .type "set_iterator",data:= .fields #[first, .int 0 0, .ref a, .int n 0, .int ep 0]}
theorem qe {Q:Value→Shared→Prop} (hm:RS s.heap a es ep t) (hz:es.size≤sizeLine)
 (q1:(!(w.params.followText "set-order")&& (!t.plain&&decide (es.size > 1)))=false→Q (.ref s.heap.objs.size) {s with heap:=s.heap.push (itO a (.int 0 0) es.size ep)})
 (q2:∀ys d,ys.Perm (List.range es.size)→Q (.ref (s.heap.objs.size+1)) {s with heap:=(s.heap.push (tupO ys)).push (itO a (.ref s.heap.objs.size) es.size ep),drawn:=d}):wpAny (model prog w) A (pyIter (.ref a)) Q E s:=by
 obtain ⟨⟨od,hod,hcd,hdd⟩,hf⟩:=id hm
 refine wpAny_pyIter_slot hm.ty F.slot_set_iter (wpAny_call_entry F.slot_set_iter hm.ty la (A:=A) ?_ (F.args_set_iter_1 _))
 unfold Builtin.«frozenset.__iter__»
 refine wpAny_bind (m:=Builtin.Frozenset.slot0 _ _) ?_
 show wpAny _ _ (pure a) _ _ s
 refine wpAny_pure (wpAny_bind ?_)
 unfold Builtin.Frozenset.sizeOf
 refine wpAny_bind (wpAny_setEntries_of hod hdd hf (wpAny_pure ?_))
 refine wpAny_bind ?_
 unfold setDrawn
 refine wpAny_bind (wpAny_setState_of hod hdd hf ?_)
 dsimp only
 refine wpAny_bind (eI (wpAny_pure ?_))
 show wpAny _ _ (if (!(w.params.followText "set-order")&& (!t.plain&&decide (es.size > 1)))=true then _ else _) _ _ s
 by_cases c:(!(w.params.followText "set-order")&& (!t.plain&&decide (es.size > 1)))=true
 · rw [if_pos c]
   refine wpAny_bind (St8.order_any _ _ (by rw [ze]) fun ys d hp=> ?_)
   unfold newTuple
   refine wpAny_bind (wpAny_newObj_type (s:= {s with drawn:=d}) ?_ ?_)
   · refine wpAny_bind (wpAny_setEpoch_of (s:= {s with drawn:=d,heap:=s.heap.push (tupO ys)}) (Heap.get?_push_of_some _ hod) hdd hf ?_)
     unfold newFields
     refine wpAny_bind (wpAny_newObj_type (s:= {s with drawn:=d,heap:=s.heap.push (tupO ys)}) ?_ (by size_fits))
     have q:=q2 ys d hp
     have e:(s.heap.push (tupO ys)).objs.size=s.heap.objs.size+1:=Heap.size_push ..
     refine wpAny_pure ⟨_,rfl,"set_iterator",_,⟨_,Heap.get?_push_size _ rfl,rfl⟩,si_next.lookup,?_⟩
     rw [e]
     exact q
   · have e:(ys.map fun (i:Nat)=>rawInt i).toArray.size=es.size:=by rw [yp,yo,hp.length_eq,ze]
     show (ys.map fun (i:Nat)=>rawInt i).toArray.size≤sizeLine
     rw [e]
     exact hz
 · rw [if_neg c]
   refine wpAny_bind (wpAny_pure ?_)
   refine wpAny_bind (wpAny_setEpoch_of hod hdd hf ?_)
   unfold newFields
   refine wpAny_bind (wpAny_newObj_type ?_ (by size_fits))
   refine wpAny_pure ⟨_,rfl,"set_iterator",_,⟨_,Heap.get?_push_size _ rfl,rfl⟩,si_next.lookup,?_⟩
   exact q1 (by simpa using c)
theorem qf {Q:Bool→Shared→Prop} (hT:s.TypeIs (.ref a) "set") (h:Q false s):wpAny (model prog w) A (Builtin.List.listLengthHint (.ref a)) Q E s:=by
 unfold Builtin.List.listLengthHint
 refine wpAny_bind (wpAny_specialOf hT PySem.F.slot_set_len.lookup ?_)
 generalize hid:("set.__len__":String)=id0
 wp_delta
 rw [show splitId id0=some ("set","__len__") from by subst hid;decide +kernel]
 subst hid
 refine wpAny_bind (wpAny_isInstance (T:="set") (b:=true) hT (by rw [isSubtype_type];kernel_rfl) ?_)
 refine wpAny_ite_split (fun hab=>absurd hab (by decide)) (fun _=> ?_)
 refine wpAny_ite_split (fun _=> ?_) (fun hab=>absurd (by decide +kernel) hab)
 refine wpAny_bind (wpAny_typeOf hT ?_)
 exact wpAny_pure h
end
open PySem PySem.Spec PyProof.Rows
theorem cr {α:Type}:∀l:List α,(l.map some).filterMap id=l
 | []=>rfl
 |x::l=>by simp [cr l]
theorem nV {vs:List Value} {acc:Array Value} {n:Nat} (hl:vs.length=n) (h:ItemsOf (fun i v=>vs[i]?=some v) acc n):acc.toList=vs:=by
 refine zx fun j=> ?_
 by_cases hj:j < n
 · have hj':j < acc.size:=by rw [h.1];exact hj
   rw [yK,h.2 j acc[j] (by simp [hj']),yM hj']
 · rw [yQ (by rw [yy,h.1];omega),yQ (by omega)]
theorem uf {es:Array (Int×Value)} {ys:List Nat} {acc:Array Value} (hy:ys.Perm (List.range es.size)) (h:ItemsOf (fun i v=>∃p,ys[i]?=some p∧(es[p]?.map (·.2))=some v) acc es.size):acc.toList.Perm (es.toList.map (·.2)):=by
 have hl:ys.length=es.size:=by rw [hy.length_eq,ze]
 have e:acc.toList.map some=ys.map fun p=>es[p]?.map (·.2):=by
  refine zx fun j=> ?_
  rw [yL,yL]
  by_cases hj:j < es.size
  · have hj':j < acc.size:=by rw [h.1];exact hj
    obtain ⟨p,e1,e2⟩:=h.2 j acc[j] (by simp [hj'])
    rw [yK,yM hj',e1]
    show some (some acc[j])=some (es[p]?.map (·.2))
    rw [e2]
  · rw [yQ (by rw [yy,h.1];omega),yQ (by omega)]
    rfl
 have e2:(List.range es.size).map (fun p=>es[p]?.map (·.2))=(es.toList.map (·.2)).map some:=by
  refine zx fun j=> ?_
  rw [yL,yL,yL]
  by_cases hj:j < es.size
  · rw [yj (by rw [ze];exact hj),List.getElem_range,yK,yM hj]
    show some (es[j]?.map (·.2))=_
    rw [yM hj]
    rfl
  · rw [yQ (by rw [ze];omega),yQ (by rw [yy];omega)]
    rfl
 have p1:=hy.map fun p=>es[p]?.map (·.2)
 rw [←e,e2] at p1
 have p2:=p1.filterMap id
 rw [cr,cr] at p2
 exact p2
section
variable {prog:Program} {w:World} {A:Around} {E:Value→Shared→Prop} {s:Shared} {a I:Addr} {es:Array (Int×Value)} {ep:Nat} {t:SetTable}
theorem RS.lt {h:Heap} (x:RS h a es ep t):a < h.objs.size:=by
 obtain ⟨⟨o,h1,_⟩,_⟩:=x
 exact Heap.lt_size h1
theorem uv {R:Result→Shared→Prop} (hh:A.handled=none) (hm:RS s.heap a es ep t) (k:Tk (!(w.params.followText "set-order")) t) (hz:es.size≤sizeLine) (S:Addr) (hSa:S≠a) (res:Value) (c0:Nat) (hS:s.heap.get? S=some {cls:= .type "list",data:= .seq #[] c0})
 (hR:∀h' tk d (acc:Array Value) c',(∀b o,b≠S→s.heap.get? b=some o→h'.get? b=some o)→h'.get? S=some {cls:= .type "list",dict:=none,data:= .seq acc c',slots:= #[]}→acc.toList.Perm (es.toList.map (·.2))→R (.ok (.ret res)) {s with heap:=h',toks:=tk,drawn:=d}):
 wpAny (model prog w) A.in1 (Builtin.List.listExtendWith (.ref S) (.ref a) res)
  (fun fin s'=>match fin with| .done f=>R (.ok f) s'| .again c'=>c'.quiet=true∧codeAny (model prog w) A c' R s') (fun e s'=>R (.error e) s') s:=by
 have ha:=hm.lt
 have hSl:S < s.heap.objs.size:=Heap.lt_size hS
 have hit:∀(E':Value→Shared→Prop) (Q:Value→Shared→Prop),(∀I fp P St h2 d,Walks prog w A.in1 I fp [I] es.size P St→S∉fp→s.heap.objs.size≤I→St 0 h2→(∀b o,s.heap.get? b=some o→h2.get? b=some o)→(∀acc:Array Value,ItemsOf P acc es.size→acc.toList.Perm (es.toList.map (·.2)))→Q (.ref I) {s with heap:=h2,drawn:=d})→wpAny (model prog w) A.in1 (pyIter (.ref a)) Q E' s:=by
  intro E' Q q
  refine qe hm hz (fun c=> ?_) fun ys d hp=> ?_
  · have hk:∀o,s.heap.get? a=some o→(s.heap.push (itO a (.int 0 0) es.size ep)).get? a=some o:=fun o e=>Heap.get?_push_of_some _ e
    have hnS:S∉ [s.heap.objs.size,a]:=by simp only [yk,yq,or_false,not_or];exact ⟨yE hSl,hSa⟩
    cases b:w.params.followText "set-order" with
    |true=>
     have hp:=(St8.pick_perm (w.params.setOrder a ep) es).map (·.2)
     have hl:((pickOrder (w.params.setOrder a ep) es).toList.map (·.2)).length=es.size:=by rw [hp.length_eq,yo,yy]
     refine q _ _ _ _ _ s.drawn (uO (es:=es) (ep:=ep) (t:=t) (u6 b) hl hh (yE ha)) hnS (yl _) ⟨⟨_,Heap.get?_push_size _ rfl,rfl,rfl⟩,hm.kp hk⟩ (fun b o e=>Heap.get?_push_of_some _ e) fun acc hi=> ?_
     rw [nV hl hi]
     exact hp
    |false=>
     rw [b] at c k
     have hl:(es.toList.map (·.2)).length=es.size:=by rw [yo,yy]
     refine q _ _ _ _ _ s.drawn (uO (es:=es) (ep:=ep) (t:=t) (qW b (by simpa using c) k hm.fits) hl hh (yE ha)) hnS (yl _) ⟨⟨_,Heap.get?_push_size _ rfl,rfl,rfl⟩,hm.kp hk⟩ (fun b o e=>Heap.get?_push_of_some _ e) fun acc hi=> ?_
     rw [nV hl hi]
  · have hsz:(s.heap.push (tupO ys)).objs.size=s.heap.objs.size+1:=Heap.size_push ..
    have hnS:S∉ [s.heap.objs.size+1,a,s.heap.objs.size]:=by simp only [yk,yq,or_false,not_or];exact ⟨yE (Nat.lt_succ_of_lt hSl),hSa,yE hSl⟩
    refine q (s.heap.objs.size+1) _ _ _ _ d (wZ (es:=es) (ep:=ep) (t:=t) (T:=s.heap.objs.size) hp hh (yE (Nat.lt_succ_of_lt ha)) (yE (Nat.lt_succ_self _))) hnS (Nat.le_succ _) ⟨⟨itO a (.ref s.heap.objs.size) es.size ep,?_,rfl,rfl⟩,hm.kp fun o e=>Heap.get?_push_of_some _ (Heap.get?_push_of_some _ e),Heap.get?_push_of_some _ (Heap.get?_push_size _ rfl)⟩ (fun b o e=>Heap.get?_push_of_some _ (Heap.get?_push_of_some _ e)) fun acc hi=>uf hp hi
    rw [←hsz]
    exact Heap.get?_push_size _ rfl
 unfold Builtin.List.listExtendWith
 refine wpAny_bind (wpAny_typeOf (T:="set") hm.ty ?_)
 have h1:Builtin.List.listSameRef (.ref S) (.ref a)=false:=by simp [Builtin.List.listSameRef,hSa]
 have h2:(Value.type "set"==Value.type "list")=false:=by decide
 have h3:(Value.type "set"==Value.type "tuple")=false:=by decide
 simp only [h1,h2,h3,Bool.or_false,yA,if_false]
 refine wpAny_bind (hit _ _ fun I fp P St h2 d W hSf hI st kp hacc=> ?_)
 have hSI:S≠I:=yE (yB hSl hI)
 have key:∀(h:Heap) (c1 tk:Nat),St 0 h→(∀b o,b≠S→s.heap.get? b=some o→h.get? b=some o)→h.get? S=some {cls:= .type "list",data:= .seq #[] c1}→
  codeAny (model prog w) A (.builtin "list.extend.loop" ⟨[.ref S, .ref I,res],[]⟩) R {s with heap:=h,toks:=tk,drawn:=d}:=by
  intro h c1 tk hst hk hS1
  refine codeAny_extend_loopS W.toS hz S hSf res es.size 0 {s with heap:=h,toks:=tk,drawn:=d} #[] c1 rfl (yO _) hst hS1 (ItemsOf.nil _) fun s' acc' c' hmv hS' hi=> ?_
  rw [Moved.eq_with hmv]
  refine hR s'.heap s'.toks d acc' c' (fun b o hb e=>hmv.heap b o (fun hmem=> ?_) (hk b o hb e)) hS' (hacc _ hi)
  rcases yk.mp hmem with e'|hmem
  · exact hb e'
  · rw [yv] at hmem
    exact absurd (Heap.lt_size e) (by rw [hmem];exact Nat.not_lt.mpr hI)
 have hS1:=kp _ _ hS
 refine wpAny_bind (wpAny_holding (qf (RS.ty (s:= {s with heap:=h2,drawn:=d}) (hm.kp fun o e=>kp _ _ e)) ?_))
 refine wpAny_ite_split (fun _=> ?_) (fun _=>wpAny_pure ⟨plainId_quiet PySem.F.plain_extend_loop _,key _ c0 _ st (fun b o _ e=>kp _ _ e) hS1⟩)
 refine wpAny_bind (wpAny_rule ?_)
 refine wpAny_bind ?_
 show wpAny _ _ (updateSeq S (·.push .none) >>=fun _=>updateSeq S (·.pop)) _ _ _
 refine wpAny_bind (wpAny_updateSeq hS1 rfl ?_)
 have hS2:=Heap.get?_update_self (Obj.mapSeq (·.push Value.none)) hS1 rfl
 refine wpAny_updateSeq (hz:=by seq_fits) hS2 rfl ?_
 have hS3:=Heap.get?_update_self (Obj.mapSeq (·.pop)) hS2 rfl
 refine wpAny_pure ⟨plainId_quiet PySem.F.plain_extend_loop _,key _ _ _ ?_ (fun b o hb e=> ?_) hS3⟩
 · refine W.frame 0 _ _ st fun b hb o e=> ?_
   have hbS:b≠S:=fun h=>hSf (h▸hb)
   exact (Heap.get?_update_other _ _ (Ne.symm hbS)).trans ((Heap.get?_update_other _ _ (Ne.symm hbS)).trans e)
 · exact (Heap.get?_update_other _ _ (Ne.symm hb)).trans ((Heap.get?_update_other _ _ (Ne.symm hb)).trans (kp _ _ e))
theorem collect_set {Q:List Value→Shared→Prop} (hh:A.handled=none) (hm:RS s.heap a es ep t) (k:Tk (!(w.params.followText "set-order")) t) (hz:es.size≤sizeLine)
 (hQ:∀h' tk d (vs:List Value),(∀b o,s.heap.get? b=some o→h'.get? b=some o)→s.heap.objs.size < h'.objs.size→vs.Perm (es.toList.map (·.2))→Q vs {s with heap:=h',toks:=tk,drawn:=d}):wpAny (model prog w) A (collect (.ref a)) Q E s:=by
 have ha:=hm.lt
 unfold collect
 refine wpAny_bind (wpAny_runValue (codeAny_builtin PySem.F.entry_proto_collect ?_))
 rw [Around.under_plainId PySem.F.plain_proto_collect _]
 show wpAny _ A.in1 (newList [] >>=fun l=>again (.builtin "list.__iadd__" ⟨[l, .ref a],[]⟩)) _ _ s
 refine wpAny_bind (wpAny_newObj_type (wpAny_pure ⟨plainId_quiet PySem.F.plain_list_iadd _,codeAny_builtin PySem.F.entry_list_iadd ?_⟩))
 rw [Around.under_plainId PySem.F.plain_list_iadd _]
 have hS:(s.heap.push {cls:= .type "list",data:= .seq ([]:List Value).toArray}).get? s.heap.objs.size=some {cls:= .type "list",data:= .seq ([]:List Value).toArray}:=Heap.get?_push_size _ rfl
 show wpAny _ A.in1 (Builtin.List.listExtendWith (.ref s.heap.objs.size) (.ref a) (.ref s.heap.objs.size)) _ _ _
 refine uv (R:=fun r' s'=>match r' with
  | .ok (.ret v)=>wpAny (model prog w) A (match v with
   | .ref a=>do match (←load a).data with
    | .seq xs _=>pure xs.toList
    |_=>unsupported "internal:collect"
   |_=>unsupported "internal:collect") Q E s'
  | .ok _=>False
  | .error e=>E e s') (s:= {s with heap:=s.heap.push {cls:= .type "list",data:= .seq ([]:List Value).toArray}}) hh (hm.kp fun o e=>Heap.get?_push_of_some _ e) k hz _ (Nat.ne_of_gt ha) _ _ hS fun h' tk d acc' c' hk hS' hacc=> ?_
 show wpAny _ A (load s.heap.objs.size >>=_) _ _ _
 refine wpAny_bind (wpAny_load hS' (wpAny_pure (hQ h' tk d acc'.toList (fun b o e=>hk b o (yE (Heap.lt_size e)) (Heap.get?_push_of_some _ e)) (Heap.lt_size hS') hacc)))
end
end Sn
namespace Tw
open PySem PyProof.Rows L2 Tre Wd Mth Dec Su
inductive Wi:Nat→Str→Tr→List (List Nat)→Prop
 |mo (n:Nat) (ps:List Pq) (f:Fr):ps.length≤3→(∀p∈ps,Pb p)→Gf 200 f→Wi n "most" (.tup [s_ "most", .tup (ps.map prT),frT f]) (ps.flatMap prC++ [frC f])
 |li (n:Nat) (t u:Tr):Tb t→Tb u→Wi n "like" (.tup [s_ "like",t,u]) [tmC t,tmC u]
 |no (n:Nat) (t:Tr) (c:List Nat):Wx n t c→Wi (n+1) "not" (.tup [s_ "not",t]) [c]
 |bo (n:Nat) (l:List (Tr×List Nat)):l.length≤3→(∀p∈l,Wx n p.1 p.2)→Wi (n+1) "both" (.tup [s_ "both", .tup (l.map (·.1))]) (l.map (·.2))
 |ei (n:Nat) (l:List (Tr×List Nat)):l.length≤3→(∀p∈l,Wx n p.1 p.2)→Wi (n+1) "either" (.tup [s_ "either", .tup (l.map (·.1))]) (l.map (·.2))
def FwP (k k':Str):Prop:=(k= "not"∧k'= "not")∨(k= "both"∧k'= "all")∨(k= "either"∧k'= "any")∨(k= "like"∧k'= "like")∨(k= "most"∧k'= "most")
theorem Wx.inner {n:Nat} {t:Tr} {c:List Nat} (h:Wx n t c):(∃x:Str,t= .tup [s_ "flag", .str x]∧c=cl x∧x.length≤8)∨∃k k' cs,Wi n k t cs∧FwP k k'∧c=hd k'++spC cs++ [41]:=by
 cases h with
 |fl _ x h=>exact .inl ⟨x,rfl,rfl,h⟩
 |mo _ ps f h1 h2 h3=>exact .inr ⟨_,_,_, .mo n ps f h1 h2 h3, .inr (.inr (.inr (.inr ⟨rfl,rfl⟩))),rfl⟩
 |li _ t u h1 h2=>exact .inr ⟨_,_,_, .li n t u h1 h2, .inr (.inr (.inr (.inl ⟨rfl,rfl⟩))),rfl⟩
 |no m t c h=>exact .inr ⟨_,_,_, .no m t c h, .inl ⟨rfl,rfl⟩,rfl⟩
 |bo m l h1 h2=>exact .inr ⟨_,_,_, .bo m l h1 h2, .inr (.inl ⟨rfl,rfl⟩),rfl⟩
 |ei m l h1 h2=>exact .inr ⟨_,_,_, .ei m l h1 h2, .inr (.inr (.inl ⟨rfl,rfl⟩)),rfl⟩
section
variable {X:Cx} {D:Addr}
end
open PySem L2 Tre Wd Mth Dec Su
abbrev Nm:=Trm.Nm
abbrev Ltr:=Trm.Ltr
inductive Lt:Tr→Prop
 |nm (x:Str):Nm x→Lt (.tup [s_ "name", .str x])
 |ap (f:Str) (ts:List Tr):Nm f→0 < ts.length→(∀t∈ts,Lt t)→Lt (.tup [s_ "call", .str f, .tup ts])
def St (Q:Nat→Prop) (r:List Nat):Prop:=∀c l,r=c::l→¬Q c
theorem qp {Q:Nat→Prop}:∀ {x y r s:List Nat},(∀c∈x,Q c)→(∀c∈y,Q c)→St Q r→St Q s→x++r=y++s→x=y∧r=s
 | [],[],_,_,_,_,_,_,e=>⟨rfl,e⟩
 | [],b::y,r,s,_,hy,hr,_,e=>absurd (hy b yn) (hr b _ e)
 |a::x,[],r,s,hx,_,_,hs,e=>absurd (hx a yn) (hs a _ e.symm)
 |a::x,b::y,r,s,hx,hy,hr,hs,e=>by
  rw [List.cons_append,List.cons_append] at e
  obtain ⟨e1,e2⟩:=List.cons.inj e
  obtain ⟨q1,q2⟩:=qp (fun c m=>hx c (ym _ m)) (fun c m=>hy c (ym _ m)) hr hs e2
  exact ⟨by rw [e1,q1],q2⟩
def En (r:List Nat):Prop:=∀c l,r=c::l→c=32∨c=41
theorem En.st {Q:Nat→Prop} {r:List Nat} (h:En r) (h1:¬Q 32) (h2:¬Q 41):St Q r:=fun c l e=>by
 rcases h c l e with rfl|rfl
 · exact h1
 · exact h2
theorem En.nil:En []:=fun c l e=>by cases e
theorem En.b (l:List Nat):En (32::l):=fun c m e=>by cases e;exact .inl rfl
theorem En.k (l:List Nat):En (41::l):=fun c m e=>by cases e;exact .inr rfl
theorem pV (cs:List (List Nat)) (r:List Nat):En (spC cs++41::r):=by
 cases cs with
 |nil=>exact En.k r
 |cons c cs=>exact En.b _
theorem nl32:¬Ltr 32:=by unfold Ltr Trm.Ltr;omega
theorem nl41:¬Ltr 41:=by unfold Ltr Trm.Ltr;omega
theorem brk {k l:Str} {cs ds:List (List Nat)} {r s:List Nat} (hk:∀c∈cl k,Ltr c) (hl:∀c∈cl l,Ltr c) (e:(hd k++spC cs++ [41])++r=(hd l++spC ds++ [41])++s):k=l∧spC cs++41::r=spC ds++41::s:=by
 have e':cl k++(spC cs++41::r)=cl l++(spC ds++41::s):=by simpa [hd] using e
 obtain ⟨e1,e2⟩:=qp hk hl ((pV _ _).st nl32 nl41) ((pV _ _).st nl32 nl41) e'
 exact ⟨se e1,e2⟩
end Tw
namespace Fs
section
variable {α:Type}
end
end Fs
namespace Tw
open PySem L2 Tre Wd Mth Dec Su
end Tw
namespace Fm
open PySem L2 Tre Wd Mth Dec Su Tw
inductive Gt:Tr→Prop
 |nm (x:Str):Nm x→Gt (.tup [s_ "name", .str x])
 |ap (f:Str) (ts:List Tr):Nm f→0 < ts.length→ts.length≤3→(∀t∈ts,Gt t)→Gt (.tup [s_ "call", .str f, .tup ts])
def tk:Tr→List Tr
 | .tup [_,_, .tup ts]=>ts
 |_=> []
theorem x4 (x:Str):tk (.tup [s_ "name", .str x])= []:=rfl
theorem x5 (f:Str) (ts:List Tr):tk (.tup [s_ "call", .str f, .tup ts])=ts:=rfl
inductive Sb:Tr→Tr→Prop
 |refl (t:Tr):Sb t t
 |step {x u t:Tr}:u∈tk t→Sb x u→Sb x t
theorem Gt.tk {t u:Tr} (h:Gt t) (m:u∈tk t):Gt u∧u.depth < t.depth:=by
 cases h with
 |nm x hx=>rw [x4] at m;cases m
 |ap f ts hf h0 h3 hh=>
  rw [x5] at m
  refine ⟨hh u m,?_⟩
  have:=bq m
  simp only [Tr.depth,Trs.depth]
  omega
theorem Sb.tk {x t y:Tr} (h:Sb x t) (m:y∈tk x):Sb y t:=by
 induction h with
 |refl=>exact .step m (.refl _)
 |step m' _ ih=>exact .step m' ih
def Clt (acc:List Tr):Prop:=∀x∈acc,∀y∈tk x,y∈acc
theorem Clt.sb {acc:List Tr} (c:Clt acc) {x t:Tr} (h:Sb x t):t∈acc→x∈acc:=by
 induction h with
 |refl=>exact fun m=>m
 |step m _ ih=>exact fun ha=>ih (c _ ha _ m)
end Fm
namespace Sn
open PySem PySem.Spec PyProof.Rows Srt
section
variable {prog:Program} {w:World} {A:Around} {E:Value→Shared→Prop} {s:Shared} {a I:Addr} {b:Bool} {S:List Int}
end
section
variable {prog:Program} {w:World} {A:Around} {R:Result→Shared→Prop} {I:Addr} {fp wr:List Addr} {G:Array GenState→Array GenState→Prop} {n:Nat} {P:Nat→Value→Prop} {St:Nat→Shared→Prop} {b:Bool}
end
open PySem PySem.Spec PyProof.Rows
section
variable {prog:Program} {w:World} {A:Around} {E:Value→Shared→Prop} {s:Shared}
noncomputable def freshO (b:Bool):Obj:= {cls:= .type "set",dict:=none,data:= .set #[] 0 (.fresh 0 0 b)}
theorem new_n (a:Value) {Q₁:Value→Shared→Prop} (h:Q₁ (.ref s.heap.objs.size) {s with heap:=s.heap.push (freshO (!(w.params.followText "set-order")))}):
 codeAny (model prog w) A (.call (.builtin "set.__new__") ⟨[.type "set",a],[]⟩) (wants Q₁ E) s:=by
 refine codeAny_of_tree ?_
 show wpAny _ A.in1 (do checkBuiltinCall "set.__new__" ⟨[.type "set",a],[]⟩;again (.builtin "set.__new__" ⟨[.type "set",a],[]⟩)) _ _ s
 refine wpAny_bind (wpAny_of_eq (F.newCall_set_1 a) (wpAny_pure ⟨plainId_quiet F.plain_set_new _,codeAny_builtin F.entry_set_new ?_⟩))
 rw [Around.under_plainId F.plain_set_new _]
 unfold Builtin.«set.__new__» Builtin.Frozenset.newClass
 have hsub:=sub_set_self
 obtain ⟨hp,g,d,tk,os⟩:=s
 dsimp only
 wp_walk
 refine wpAny_askSetting (wpAny_pure ?_)
 dsimp only
 simp only [newObj]
 refine wpAny_bind (wpAny_alloc (wpAny_pure ?_))
 exact wpAny_pure h
end
end Sn
namespace St8
open PySem PySem.Spec PyProof.Rows Tk
section
variable {prog:Program} {w:World} {A:Around} {X:Value→Shared→Prop} {s:Shared} {a:Addr} {b:Bool} {us:List Value} {ks:List KT}
def Nt (prog:Program) (w:World) (h:Heap) (a:Addr) (b:Bool) (us:List Value) (ks:List KT):Prop:=
 ∃m E kf o es ep t,Si b h a m E o es ep t∧Sx prog w h m E kf∧(∀k∈ks,∃j,m.testBit j=true∧kf j=k)∧(∀j,m.testBit j=true→∃i:Nat,us[i]?=some (E j).2∧ks[i]?=some (kf j))∧us.length=ks.length∧(bts m).length≤ks.length
theorem Nt.kp {h h':Heap} (N:Nt prog w h a b us ks) (e:∀o,h.get? a=some o→h'.get? a=some o) (k:∀c o items n,h.get? c=some o→o.data= .seq items n→h'.get? c=some o):Nt prog w h' a b us ks:=by
 obtain ⟨m,E,kf,o,es,ep,t,S,D,r⟩:=N
 exact ⟨m,E,kf,o,es,ep,t,⟨S.led,e _ S.get,S.ex,S.data,S.es,S.tb,S.n4⟩,D.keep k,r⟩
theorem qY {h:Heap} (hg:h.get? a=some (Sn.freshO b)):Nt prog w h a b [] []:=by
 refine ⟨0,fun _=>(0, .none),fun _=> .tp [],Sn.freshO b, #[],0, .fresh 0 0 b,⟨rfl,hg,⟨rfl,rfl,rfl⟩,rfl,rfl,⟨rfl,by cases b<;>decide +kernel,rfl,by decide⟩,by decide⟩,⟨fun j h=> ?_,fun j h=> ?_,fun i j h=> ?_⟩,fun k m=>(by cases m),fun j h=> ?_,rfl,by decide⟩
 all_goals exact absurd h (by simp)
theorem yi (N:Nt prog w s.heap a b us ks) (hk:ks.length≤3) {x:Value} {kt:KT} (hxr:∃c,x= .ref c) (hx:KAt s.heap x kt) (hd:kt.depth≤8) (hu:A.units+20 < cLine) {Q:Shared→Prop}
 (q:∀h',(h'=s.heap∨Heap.SameBut a s.heap h')→Nt prog w h' a b (us++ [x]) (ks++ [kt])→Q {s with heap:=h'}):
 wpAny (model prog w) A (setAddHashed a x (kt.hash prog w)) (fun _ s'=>Q s') X s:=by
 obtain ⟨m,E,kf,o,es,ep,t,S,D,mem,src,ul,len⟩:=N
 have old:∀ {j i:Nat},us[i]?=some (E j).2∧ks[i]?=some (kf j)→(us++ [x])[i]?=some (E j).2∧(ks++ [kt])[i]?=some (kf j):=fun ⟨h1,h2⟩=>⟨by rw [List.getElem?_append_left (yF.mp h1).1];exact h1,by rw [List.getElem?_append_left (yF.mp h2).1];exact h2⟩
 refine wY S D (by omega) hxr hx hd hu (fun j hj e=> ?_) fun j h' j8 hb hne sb ⟨o',es',ep',t',S'⟩ D' hl=> ?_
 · refine q s.heap (.inl rfl) ⟨m,E,kf,o,es,ep,t,S,D,fun k hk=> ?_,fun j hj=> ?_,by rw [yt,yt,ul];rfl,by rw [yt];omega⟩
   · rcases yx.mp hk with h|h
     · exact mem k h
     · exact ⟨j,hj,by rw [yv.mp h];exact e⟩
   · obtain ⟨i,h⟩:=src j hj
     exact ⟨i,old h⟩
 · refine q h' (.inr sb) ⟨_,_,_,o',es',ep',t',S',D',fun k hk=> ?_,fun i hi=> ?_,by rw [yt,yt,ul];rfl,by rw [hl,yt];show _≤_+1;omega⟩
   · rcases yx.mp hk with h|h
     · obtain ⟨i,hi,e⟩:=mem k h
       refine ⟨i,by rw [eD,hi];rfl,?_⟩
       have:i≠j:=fun z=>by rw [z,hb] at hi;cases hi
       unfold setE
       rw [if_neg this]
       exact e
     · exact ⟨j,by rw [eD];simp,by unfold setE;rw [if_pos rfl,yv.mp h]⟩
   · unfold setE
     by_cases z:i=j
     · rw [if_pos z,if_pos z]
       exact ⟨us.length,by rw [List.getElem?_append_right (yl _)];simp,by rw [ul,List.getElem?_append_right (yl _)];simp⟩
     · rw [if_neg z,if_neg z]
       rw [eD,Bool.or_eq_true] at hi
       rcases hi with hi|hi
       · obtain ⟨p,h⟩:=src i hi
         exact ⟨p,old h⟩
       · exact absurd (of_decide_eq_true hi).symm z
end
section
variable {prog:Program} {w:World} {A:Around} {R:Result→Shared→Prop} {I:Addr} {fp wr:List Addr} {G:Array GenState→Array GenState→Prop} {n:Nat} {P:Nat→Value→Prop} {St:Nat→Shared→Prop} {b:Bool} {vs:List Value} {ks:List KT}
theorem wn (W:WalksS prog w A.in1 I fp wr G n P St) (S:Addr) (hSf:S∉fp) (hval:∀i v,P i v→vs[i]?=some v) (hn:n≤4) (hl:ks.length=n) (hd:∀k∈ks,k.depth≤8) (hr:∀v∈vs,∃c,v= .ref c) (hu:A.in1.units+20 < cLine)
 (hq:∀i s s',St i s→Moved wr G s s'→∀c o items m,s.heap.get? c=some o→o.data= .seq items m→s'.heap.get? c=some o) (hS:∀i s,St i s→True):
 ∀(k i:Nat) (s:Shared),n - i=k→i≤n→St i s→KsAt s.heap vs ks→Nt prog w s.heap S b (vs.take i) (ks.take i)→
  (∀s',Moved (S::wr) G s s'→Nt prog w s'.heap S b vs ks→R (.ok (.ret .none)) s')→codeAny (model prog w) A (.builtin "set.update.loop" ⟨[.ref S, .ref I],[]⟩) R s:=by
 have hSw:S∉wr:=fun h=>hSf (W.sub _ h)
 have hsub:∀b∈wr,b∈S::wr:=fun b hb=>ym _ hb
 intro k
 induction k with
 |zero=>
  intro i s hk hi hst hK N hR
  have hin:i=n:=by omega
  subst hin
  refine codeAny_builtin F.entry_set_update_loop ?_
  rw [Around.under_plainId F.plain_set_update_loop _]
  show wpAny _ A.in1 (pyNext (.ref I) >>=_) _ _ s
  refine wpAny_bind (W.done s _ _ hst fun s' hm=> ?_)
  show wpAny _ A.in1 (ret Value.none) _ _ s'
  have lv:=hK.len
  rw [zg (by omega),zg (by omega)] at N
  exact wpAny_pure (hR s' (hm.mono hsub) (N.kp (fun o e=>hm.heap S _ hSw e) (hq _ _ _ hst hm)))
 |succ k ih=>
  intro i s hk hi hst hK N hR
  have hlt:i < n:=by omega
  refine codeAny_builtin F.entry_set_update_loop ?_
  rw [Around.under_plainId F.plain_set_update_loop _]
  show wpAny _ A.in1 (pyNext (.ref I) >>=_) _ _ s
  refine wpAny_bind (W.item i s _ _ hlt hst fun v s' hP hst' hm=> ?_)
  have ev:=hval i v hP
  have K':∀c o items m,s.heap.get? c=some o→o.data= .seq items m→s'.heap.get? c=some o:=hq _ _ _ hst hm
  have hK':KsAt s'.heap vs ks:=KsAt.keep K' hK
  obtain ⟨kt,ek,hv⟩:=hK'.get ev
  have hdk:=hd kt (yw ek)
  obtain ⟨c,rfl⟩:=hr v (yw ev)
  show wpAny _ A.in1 (holding [Value.ref c] (setAdd S (.ref c)) >>=_) _ _ s'
  refine wpAny_bind (wpAny_holding ?_)
  unfold setAdd
  refine wpAny_holding ?_
  refine wpAny_bind (nY (prog:=prog) (w:=w) 8 hdk (by omega) hv ?_)
  have N':Nt prog w s'.heap S b (vs.take i) (ks.take i):=N.kp (fun o e=>hm.heap S _ hSw e) K'
  refine wpAny_mono (yi (s:= {s' with toks:=s'.toks+kt.draws}) (b:=b) (Q:=fun s2=>_) N' (by rw [yN];omega) ⟨c,rfl⟩ hv hdk hu fun h' hsb N2=> ?_) (fun _ s2 h=>h) fun _ _ h=>h
  have N3:Nt prog w h' S b (vs.take (i+1)) (ks.take (i+1)):=by
   rw [z7,z7,ek,ev]
   exact N2
  have hsb2:∀c o,c≠S→s'.heap.get? c=some o→h'.get? c=some o:=fun c o hc e=>by
   rcases hsb with z|z
   · rw [z];exact e
   · rw [z.2 c hc];exact e
  have hSet:∀c o items m,s'.heap.get? c=some o→o.data= .seq items m→c≠S:=fun c o items m e d z=>by
   obtain ⟨m',E',kf',o',es',ep',t',S',_⟩:=N'
   rw [z,S'.get] at e
   cases e
   rw [S'.data] at d
   cases d
  refine wpAny_pure ⟨plainId_quiet F.plain_set_update_loop _,ih (i+1) _ (by omega) hlt (W.frame _ s' _ _ hst' (Nat.le_add_right _ _) fun b hb o e=> ?_) (KsAt.keep (fun c o items m e d=>hsb2 c o (hSet c o items m e d) e) hK') N3 fun s'' hm'' hS''=> ?_⟩
  · exact hsb2 b o (fun h:b=S=>hSf (by rw [←h];exact hb)) e
  · refine hR s'' (Moved.trans W.gtrans ((hm.mono hsub).then_heap (Nat.le_add_right _ _) fun b o hb e=> ?_) hm'') hS''
    exact hsb2 b o (fun h:b=S=>hb (by rw [h];exact yn)) e
end
open PySem PySem.Spec PyProof.Rows Tk
section
variable {prog:Program} {w:World} {A:Around} {E:Value→Shared→Prop} {s:Shared}
theorem set_listT {l:Addr} {items:Array Value} {ks:List KT} {Q:Value→Shared→Prop} (hh:A.handled=none) (hl:s.heap.IsList l items) (hi:KsAt s.heap items.toList ks) (hr:∀v∈items.toList,∃c,v= .ref c) (hd:∀k∈ks,k.depth≤8) (hb:items.size≤4) (hu:A.units+60 < cLine)
 (h:∀(h':Heap) (tk:Nat),Nt prog w h' s.heap.objs.size (!(w.params.followText "set-order")) items.toList ks→(∀b o,b < s.heap.objs.size→s.heap.get? b=some o→h'.get? b=some o)→Q (.ref s.heap.objs.size) {s with heap:=h',toks:=tk}):
 wpAny (model prog w) A (call (.type "set") [.ref l]) Q E s:=by
 generalize hB:(!(w.params.followText "set-order"))=B at h
 obtain ⟨c,tl,hmro⟩:=F.called_set.mro
 have hmade:=F.called_set.made
 have hsub:=F.called_set.sub
 refine wpAny_call (codeAny_of_tree ?_)
 show wpAny _ _ (callAny (.type "set") _) _ _ _
 refine wpAny_pure ⟨Code.quiet_builtin _ (by decide +kernel),codeAny_builtin F.entry_type_call ?_⟩
 rw [Around.under_plain (weight_type_call_type "set" [.ref l] []) rfl]
 have h1:=F.called_set.notType
 have h2:=F.called_set.canCreate
 have hct:=F.typeCall_set_1 (.ref l)
 repeat (any_goals (first|assumption|wp_step))
 refine codeAny_mono (Sn.new_n (.ref l) (E:=E) (Q₁:=fun obj s₁=>obj= .ref s.heap.objs.size∧s₁= {s with heap:=s.heap.push (Sn.freshO B)}) ⟨rfl,by rw [hB]⟩) fun r s₁ hr=> ?_
 cases r with
 |error e=>exact hr
 |ok fl=>
  cases fl with
  |ret obj=>
   obtain ⟨rfl,rfl⟩:=hr
   have hS:(s.heap.push (Sn.freshO B)).get? s.heap.objs.size=some (Sn.freshO B):=Heap.get?_push_size _ rfl
   have hT:Shared.TypeIs {s with heap:=s.heap.push (Sn.freshO B)} (.ref s.heap.objs.size) "set":=⟨_,hS,rfl⟩
   have hli:=F.called_set.init.lookup
   have hbi:=F.called_set.init.bind (.ref s.heap.objs.size)
   repeat (any_goals (first|assumption|wp_step))
   refine codeAny_mono (codeAny_call_builtin (R:=wants (fun r s₂=>r= .none∧∃h' tk,s₂= {s with heap:=h',toks:=tk}∧Nt prog w h' s.heap.objs.size B items.toList ks∧
    (∀b o,b < s.heap.objs.size→s.heap.get? b=some o→h'.get? b=some o)) E) F.called_set.init.plain F.entry_set_init (check_set_init_1 hT ?_)) fun r₂ s₂ hr₂=> ?_
   · obtain ⟨ol,hol,hcl,nl,hdl⟩:=hl
     obtain ⟨ocls,odict,odata,oslots⟩:=ol
     simp only at hcl hdl
     subst hcl;subst hdl
     have hol':(s.heap.push (Sn.freshO B)).get? l=some {cls:= .type "list",dict:=odict,data:= .seq items nl,slots:=oslots}:=Heap.get?_push_of_some _ hol
     have hsls:=F.sub_list_set
     have hslf:=F.sub_list_frozenset
     have hne:(Value.type "list"==Value.type "dict")=false:=by decide
     have hl1:(s.heap.push (Sn.freshO B)).IsList l items:=⟨_,hol',rfl,nl,rfl⟩
     unfold Sn.freshO at*
     unfold Builtin.«set.__init__» noKeywords Builtin.Frozenset.updateFrom
     generalize hPI:pyIter=PI
     wp_walk
     subst hPI
     refine wpAny_pyIter_list hl1 ?_
     refine wpAny_bind (wpAny_runValue ?_)
     have hlS:l < s.heap.objs.size:=Heap.lt_size hol
     have hh3:A.in1.in1.in1.handled=none:=by simp [hh]
     have hneI:l≠(s.heap.push {cls:= .type "set",dict:=none,data:= .set #[] 0 (.fresh 0 0 B)}).objs.size:=by
      rw [Heap.size_push];exact yE (Nat.lt_succ_of_lt hlS)
     have hSf:s.heap.objs.size∉ [(s.heap.push {cls:= .type "set",dict:=none,data:= .set #[] 0 (.fresh 0 0 B)}).objs.size,l]:=by
      rw [Heap.size_push];simp only [yk,yv,yq,or_false,not_or]
      exact ⟨yE (Nat.lt_succ_self _),Nat.ne_of_gt hlS⟩
     have hK:∀(oI:Obj) c o its m,s.heap.get? c=some o→o.data= .seq its m→((s.heap.push {cls:= .type "set",dict:=none,data:= .set #[] 0 (.fresh 0 0 B)}).push oI).get? c=some o:=fun oI c o its m e _=>Heap.get?_push_of_some _ (Heap.get?_push_of_some _ e)
     refine wn (b:=B) (vs:=items.toList) (ks:=ks) ((Walks.list hh3 _ l hneI items).toS) s.heap.objs.size hSf (fun i v hv=>by rw [yK];exact hv) hb ?hlen hd hr ?hu ?hq (fun _ _ _=>trivial) (items.size - 0) 0 _ (by omega) (yO _)
      ⟨⟨_,Heap.get?_push_size _ rfl,rfl,rfl⟩,(hl1.push _)⟩ (KsAt.keep (hK _) hi) ?hS0 ?hR
     case hlen=>have:=hi.len;rw [yy] at this;omega
     case hu=>simp;omega
     case hq=>
      intro i s1 s2 st hm c o its m e d
      refine hm.heap c o (fun z=> ?_) e
      obtain ⟨⟨oI,e1,e2,e3⟩,_⟩:=st
      have z':=yv.mp z
      rw [z',e1] at e
      cases e
      rw [e3] at d
      cases d
     case hS0=>exact qY (Heap.get?_push_of_some _ hS)
     case hR=>
      intro s' hm hS'
      obtain ⟨h',g',d',tk',os'⟩:=s'
      have eg:g'=s.gens:=hm.gens
      have ed:d'=s.drawn:=hm.drawn
      have eo:os'=s.os:=hm.os
      subst eg;subst ed;subst eo
      show wpAny _ _ _ _ _ _
      refine wpAny_pure ?_
      show wpAny _ _ (ret Value.none) _ _ _
      refine wpAny_pure ⟨rfl,h',tk',rfl,hS',fun b o hb e=> ?_⟩
      have hb1:b≠s.heap.objs.size:=yE hb
      have hb2:b≠(s.heap.push {cls:= .type "set",dict:=none,data:= .set #[] 0 (.fresh 0 0 B)}).objs.size:=by
       rw [Heap.size_push];exact yE (Nat.lt_succ_of_lt hb)
      exact hm.heap b o (by simp only [yk,yv,yq,or_false,not_or];exact ⟨hb1,hb2⟩) (Heap.get?_push_of_some _ (Heap.get?_push_of_some _ e))
   · cases r₂ with
     |error e=>exact hr₂
     |ok fl₂=>
      cases fl₂ with
      |ret r=>
       obtain ⟨rfl,h',tk,rfl,hS',hk'⟩:=hr₂
       repeat (any_goals (first|assumption|wp_step))
       exact h _ _ hS' hk'
      |_=>exact hr₂.elim
  |_=>exact hr.elim
end
end St8
namespace L2
open PySem PySem.Spec PyProof.Rows Zp
section
variable {X:Cx}
end
section
open PySem
variable {prog:Program} {w:World} {A:Around} {R:Result→Shared→Prop} {s:Shared}
end
open PySem PySem.Spec PyProof.Rows
section
variable {X:Cx} {pins:List (Addr×Obj)} {σ:St} {H:Hp} {s:Shared}
variable {kx vx target iter:Expr} {ifs:List Expr} {scope:Scope} {NC:List Str} {mp:List (Option Nat)} {pos:Pos} {wi:TI} {g:TG} {tc:TT} {tk te:TE}
end
section
open PySem
variable {prog:Program} {w:World} {A:Around} {R:Result→Shared→Prop} {s:Shared}
end
open PySem PySem.Spec PyProof.Rows
section
variable {X:Cx} {pins:List (Addr×Obj)} {σ:St} {H:Hp} {s:Shared}
variable {elt target iter t2 i2:Expr} {scope:Scope} {NC:List Str} {mp:List (Option Nat)} {pos:Pos} {wi:TI} {g:TG} {wi2:TI} {g2:TG} {te:TE}
end
end L2
namespace Dj
open PySem PySem.Spec PySem.W PyProof.Rows L2 Tre Srt
section
variable {X:Cx} {pins:List (Addr×Obj)} {σ:L2.St} {H:Hp} {s:Shared}
end
end Dj
namespace Tre
open PySem PySem.Spec PyProof.Rows L2
open PySem PySem.Spec PySem.W PyProof.Rows L2 Srt
section
variable {X:Cx}
end
end Tre
namespace L2
open PySem PySem.Spec PyProof.Rows Sn
noncomputable def sN (P:Program) (w:World) (a:Addr) (S:List Int):HO:= .ext fun h=>Ni P w h a (!(w.params.followText "set-order")) S
section
variable {X:Cx} {pins:List (Addr×Obj)} {σ:St} {H:Hp} {s:Shared}
theorem Inv.drew {d:_} (I:Inv X pins σ H s):Inv X pins σ H {s with drawn:=d}:=
 ⟨I.ok,I.os,I.bare,I.base,I.loc,I.cell,I.free,I.freeC,I.pin,I.hok,I.len⟩
end
open PySem PySem.Spec PyProof.Rows Tre Dj
noncomputable def sT (w:World) (a:Addr) (cs:List Addr):HO:= .ext fun h=>∃es ep t,Sn.RS h a es ep t∧Sn.Tk (!(w.params.followText "set-order")) t∧es.toList.map (·.2)=cs.map Value.ref
theorem ua {ts:List Tr} {t:Tr} (m:t∈ts):ktT t∈ktTs ts:=by
 induction ts with
 |nil=>cases m
 |cons u ts ih=>
  rw [ktTs]
  rcases yk.mp m with rfl|m
  · exact yn
  · exact ym _ (ih m)
theorem jx:∀ {ts:List Tr} {i:Nat} {k:Tk.KT},(ktTs ts)[i]?=some k→∃t,ts[i]?=some t∧k=ktT t
 | [],i,k,h=>by rw [ktTs] at h;cases h
 |t::ts,0,k,h=>by rw [ktTs] at h;cases h;exact ⟨t,rfl,rfl⟩
 |t::ts,i+1,k,h=>by rw [ktTs] at h;exact jx (ts:=ts) (i:=i) h
theorem vR (m:Nat):Sn.Up (St8.plc m).toList:=by
 unfold St8.plc St8.bts Sn.Up
 rw [zq]
 exact List.pairwise_lt_range.filter _
section
variable {X:Cx}
def xm (w:World):List V→Hp→VK→Prop:=fun xs H Q=>∃(l:Addr) (vs:List V) (ts:List Tr),xs= [.ref l]∧H l=some (.lst vs)∧TrsAt H vs ts∧ts.length≤4∧(∀t∈ts,Ty .tm t∧t.depth≤8)∧
 ∀(D:Addr) (cs:List Addr) (us:List Tr),H D=none→TrsAt H (cs.map V.ref) us→us.Nodup→(∀t,t∈us↔t∈ts)→us.length≤4→Q (.ref D) (upd H D (sT w D cs))
theorem k7 {H:Hp} {E:Nat→Int×Value} {kf:Nat→Tk.KT} {vs:List V} {as:List Value} {ts:List Tr} (hT:TrsAt H vs ts) (rv:Vals vs as) (ty:∀t∈ts,Ty .tm t):∀(L:List Nat),(∀j∈L,∃i:Nat,as[i]?=some (E j).2∧(ktTs ts)[i]?=some (kf j))→
 ∃(cs:List Addr) (us:List Tr),(L.map fun j=>(E j).2)=cs.map Value.ref∧TrsAt H (cs.map V.ref) us∧us.map ktT=L.map kf∧∀t∈us,t∈ts
 | [],_=>⟨[],[],rfl, .nil,rfl,fun t m=>by cases m⟩
 |j::L,h=>by
  obtain ⟨cs,us,h1,h2,h3,h4⟩:=k7 hT rv ty L fun i m=>h i (ym _ m)
  obtain ⟨i,e1,e2⟩:=h j yn
  obtain ⟨t,et,ek⟩:=jx e2
  obtain ⟨v,ev,hv⟩:=hT.get et
  obtain ⟨a,ea,ra⟩:=rv.get ev
  have mt:=yw et
  obtain ⟨b,rfl⟩:=j7 (ty t mt) hv
  have e3:(E j).2= .ref b:=by
   rw [e1] at ea
   cases ea
   exact ra
  refine ⟨b::cs,t::us,by rw [yD,yD,e3,h1], .cons hv h2,by rw [yD,yD,h3,ek],fun u m=> ?_⟩
  rcases yk.mp m with rfl|m
  · exact mt
  · exact h4 u m
theorem pk (hc:X.calm=true) (hu:X.A.units+60 < cLine):ci X (.type "set") (xm X.w):=by
 intro pins s σ H xs us Q I r h
 obtain ⟨l,vs,ts,rfl,hl,hT,h4,hty,q⟩:=h
 obtain ⟨u,rfl,ru⟩:=dg r
 cases ru
 obtain ⟨as,rv,pl,_⟩:=I.list (SqL.of hl)
 have l1:=hT.len
 have l2:=rv.length
 have kp:Kps ts:=nK fun t m=>gB (hty t m).1
 have hK:Tk.KsAt s.heap as (ktTs ts):=kats_of I.hok I.kIn (kvts_of kp hT) rv
 refine St8.set_listT (items:=as.toArray) (ks:=ktTs ts) (I.ok.hd hc) pl.isList (by simpa using hK) (fun v m=> ?_) (fun k m=> ?_) (by rw [yp];omega) hu fun h' tk N kp'=> ?_
 · have m':v∈as:=by simpa using m
   obtain ⟨i,hi,e⟩:=List.getElem_of_mem m'
   have hi':i < ts.length:=by omega
   obtain ⟨x,e1,e2⟩:=hT.get (i:=i) (t:=ts[i]) (yj hi')
   obtain ⟨a,e3,e4⟩:=rv.get e1
   obtain ⟨b,rfl⟩:=j7 (hty _ (zk hi')).1 e2
   rw [yj hi,e] at e3
   cases e3
   exact ⟨b,e4⟩
 · obtain ⟨i,hi,e⟩:=List.getElem_of_mem m
   obtain ⟨t,et,ek⟩:=jx (ts:=ts) (i:=i) (k:=k) (by rw [yj hi,e])
   have mt:=yw et
   rw [ek,rn (gB (hty t mt).1)]
   exact (hty t mt).2
 · have kpp:∀b o,s.heap.get? b=some o→h'.get? b=some o:=fun b o e=>kp' b o (Heap.lt_size e) e
   obtain ⟨m,E,kf,o,es,ep,t,S,D,mem,src,ul,len⟩:=N
   have lt8:∀j,m.testBit j=true→j∈St8.bts m:=fun j hj=>by
    refine z9.mpr ⟨yY.mpr ?_,hj⟩
    refine Classical.byContradiction fun z=> ?_
    have:m < 2^j:=yB S.tb.lt (by
     show 2^8≤2^j
     exact Nat.pow_le_pow_right (by decide) (by omega))
    rw [Nat.testBit_lt_two_pow this] at hj
    cases hj
   obtain ⟨cs,us,h1,h2,h3,hm⟩:=k7 (E:=E) (kf:=kf) hT rv (fun t m=>(hty t m).1) (St8.bts m) fun j hj=>by
    obtain ⟨i,e1,e2⟩:=src j (z9.mp hj).2
    exact ⟨i,by simpa using e1,e2⟩
   have nd:us.Nodup:=by
    have:(us.map ktT).Nodup:=by
     rw [h3]
     have nb:(St8.bts m).Nodup:=List.Pairwise.filter _ List.nodup_range
     refine List.Pairwise.map kf ?_ (List.Pairwise.and_mem.mp nb)
     intro i j ⟨mi,mj,ne⟩ e
     exact ne (D.inj i j (z9.mp mi).2 (z9.mp mj).2 e)
    exact List.Pairwise.of_map ktT (fun a b h e=>h (by rw [e])) this
   have hmem:∀t,t∈us↔t∈ts:=fun t=>⟨hm t,fun mt=>by
    obtain ⟨j,hj,e⟩:=mem _ (ua mt)
    have:kf j∈us.map ktT:=by
     rw [h3]
     exact yV.mpr ⟨j,lt8 j hj,rfl⟩
    obtain ⟨u,mu,eu⟩:=yV.mp this
    rw [←rm (gB (hty u (hm u mu)).1) (gB (hty t mt).1) (eu.trans e)]
    exact mu⟩
   have ulen:us.length≤4:=by
    have e:=congrArg List.length h3
    rw [yo,yo] at e
    have:=S.n4
    omega
   have rs:∃es ep t,Sn.RS h' s.heap.objs.size es ep t∧Sn.Tk (!(X.w.params.followText "set-order")) t∧es.toList.map (·.2)=cs.map Value.ref:=by
    refine ⟨es,ep,t,⟨⟨o,S.get,S.ex,S.data⟩,S.fits⟩,⟨S.led,?_⟩,?_⟩
    · rw [S.tb.place]
      exact vR m
    · rw [S.es,List.map_map]
      exact h1
   refine ⟨.ref s.heap.objs.size,upd H s.heap.objs.size (sT X.w s.heap.objs.size cs),I.laid (t':=tk) kpp (yl _) ⟨rs,⟨o,S.get⟩,fun h1 h2 ⟨es,ep,t,r,k,e⟩ f=>⟨es,ep,t,r.kp f,k,e⟩⟩,rfl,q _ cs us (I.hok.fresh (yl _)) h2 nd hmem ulen⟩
end
end L2
namespace Dj
open PySem PySem.Spec PySem.W PyProof.Rows L2 Tre Srt
section
variable {prog:Program} {w:World} {A:Around} {E:Value→Shared→Prop} {s:Shared}
theorem lO {l:Addr} {vs0:List Value} {Q:Value→Shared→Prop} (h64:vs0.length < 64)
 (hcol:∀Q':List Value→Shared→Prop,(∀h' tk d vs,(∀b o,s.heap.get? b=some o→h'.get? b=some o)→s.heap.objs.size < h'.objs.size→vs.Perm vs0→Q' vs {s with heap:=h',toks:=tk,drawn:=d})→wpAny (model prog w) A.in1 (collect (.ref l)) Q' E s)
 (hall:∀vs d,vs.Perm vs0→∃(lt:Nat→Nat→Bool) (κ:SortKind),Ord lt∧
  (2≤vs.length→∀h' tk,(∀b o,s.heap.get? b=some o→h'.get? b=some o)→∀(E':Value→Shared→Prop) (R:SortKind→Shared→Prop),R κ {s with heap:=h',toks:=tk,drawn:=d}→wpAny (model prog w) A.in1.in1 (keyKind' vs.toArray) R E' {s with heap:=h',toks:=tk,drawn:=d})∧
  (∀h' tk,(∀b o,s.heap.get? b=some o→h'.get? b=some o)→∀i j (R:Bool→Shared→Prop),i < vs.length→j < vs.length→R (lt i j) {s with heap:=h',toks:=tk,drawn:=d}→kas_ask prog w A.in1.in1 κ vs i j R {s with heap:=h',toks:=tk,drawn:=d})∧
  (∀p:Array Nat,Pm vs.length p→Up lt p vs.length→∀h' tk D e,(∀b o,s.heap.get? b=some o→h'.get? b=some o)→s.heap.objs.size≤D→h'.get? D=some (seqObj "list" (List.toArray (p.toList.map fun i=>vs.getD i Value.none)) e)→Q (.ref D) {s with heap:=h',toks:=tk,drawn:=d})):
 wpAny (model prog w) A (call (.builtin "sorted") [.ref l]) Q E s:=by
 refine Calls.call_function_entry kind_sorted plain_sorted entry_sorted (args_sorted1 _) ?_
 unfold Builtin.«sorted»
 refine wpAny_bind (m:=checkCount "sorted" 1 1 _) (wpAny_pure (wpAny_bind (hcol _ fun h1 tk d vs k1 sz pm=> ?_)))
 obtain ⟨lt,κ,O,hkind,hask,h⟩:=hall vs d pm
 have hvl:=pm.length_eq
 refine wpAny_bind (wpAny_newList (s:= {s with heap:=h1,toks:=tk,drawn:=d}) ?_ (by rw [sizeLine_eq];omega))
 have hoL:(h1.push (seqObj "list" vs.toArray 0)).get? h1.objs.size=some (seqObj "list" vs.toArray 0):=Heap.get?_push_size _ rfl
 have keep:∀b o,s.heap.get? b=some o→(h1.push (seqObj "list" vs.toArray 0)).get? b=some o∧b≠h1.objs.size:=fun b o q=>⟨Heap.get?_push_of_some _ (k1 b o q),yE (Heap.lt_size (k1 b o q))⟩
 show wpAny _ _ _ _ _ {s with heap:=h1.push (seqObj "list" vs.toArray 0),toks:=tk,drawn:=d}
 refine wpAny_bind (wpAny_holding (wpAny_call_entry slot_list_sort ⟨_,hoL,rfl⟩ entry_list_sort (dR (s:= {s with heap:=h1.push (seqObj "list" vs.toArray 0),toks:=tk,drawn:=d}) (lt:=lt) (κ:=κ) O hoL (by omega) (fun h2 h' st R hR=>hkind h2 h' tk (fun b o e=>st b o (keep b o e).2 (keep b o e).1) _ R hR)
  (fun h' st i j R hi hj hR=>hask h' tk (fun b o e=>st b o (keep b o e).2 (keep b o e).1) i j R hi hj hR) fun p a1 a2=>⟨_,rfl,?_⟩) (args_list_sort _)))
 obtain ⟨e,he⟩:=sortedHeap_at (out:=List.toArray (p.toList.map fun i=>vs.getD i Value.none)) hoL
 refine wpAny_pure ⟨_,rfl,h p a1 a2 _ tk _ e (fun b o q=> ?_) (Nat.le_of_lt sz) he⟩
 rw [sortedHeap_old (keep b o q).2 (Heap.lt_size (keep b o q).1)]
 exact (keep b o q).1
end
section
variable {X:Cx}
def qv (w:World):List V→Hp→VK→Prop:=fun xs H Q=>∃(a:Addr) (cs:List Addr) (us:List Tr),xs= [.ref a]∧H a=some (sT w a cs)∧TrsAt H (cs.map V.ref) us∧us.length < 64∧(∀t∈us,Hs t∧t.pure∧t.depth≤40)∧(∀t∈us,∀u∈us,Cm t u)∧
 ∀(D:Addr) (ws:List V) (vs:List Tr),H D=none→vs.Perm us→TrsAt H ws vs→(∀(i j:Nat) (t u:Tr),i≤j→vs[i]?=some t→vs[j]?=some u→ltT u t=false)→Q (.ref D) (upd H D (.lst ws))
theorem pD {H:Hp} {cs ds:List Addr} (p:ds.Perm cs):∀ {us:List Tr},TrsAt H (cs.map V.ref) us→∃vs,vs.Perm us∧TrsAt H (ds.map V.ref) vs:=by
 induction p with
 |nil=>intro us h;exact ⟨us, .refl _,h⟩
 |cons x _ ih=>
  intro us h
  cases us with
  |nil=>have:=h.len;simp at this
  |cons u us=>
   obtain ⟨v,r,e,h1,h2⟩:=h.inv
   rw [yD] at e
   injection e with e1 e2
   subst e1 e2
   obtain ⟨vs,p2,h3⟩:=ih h2
   exact ⟨u::vs,p2.cons u, .cons h1 h3⟩
 |swap x y l=>
  intro us h
  match us,h with
  | [],h=>have:=h.len;simp at this
  | [u],h=>have:=h.len;simp at this
  |u::v::us,h=>
   obtain ⟨a,r,e,h1,h2⟩:=h.inv
   obtain ⟨b,r',e',h3,h4⟩:=h2.inv
   subst e'
   rw [yD,yD] at e
   injection e with e1 e2
   injection e2 with e2 e3
   subst e1 e2 e3
   exact ⟨v::u::us, .swap _ _ _, .cons h3 (.cons h1 h4)⟩
 |trans _ _ ih1 ih2=>
  intro us h
  obtain ⟨vs,p1,h1⟩:=ih2 h
  obtain ⟨ws,p2,h2⟩:=ih1 h1
  exact ⟨ws,p2.trans p1,h2⟩
theorem oX {vs:List Value} {cs:List Addr} (p:vs.Perm (cs.map Value.ref)):∃ds:List Addr,vs=ds.map Value.ref∧ds.Perm cs:=by
 generalize e:cs.map Value.ref=l at p
 induction p generalizing cs with
 |nil=>exact ⟨[],rfl,by rw [List.map_eq_nil_iff.mp e]⟩
 |cons x _ ih=>
  cases cs with
  |nil=>cases e
  |cons c cs=>
   rw [yD] at e
   injection e with e1 e2
   obtain ⟨ds,h1,h2⟩:=ih e2
   exact ⟨c::ds,by rw [yD,h1,e1],h2.cons c⟩
 |swap x y l=>
  match cs,e with
  |c::d::cs,e=>
   rw [yD,yD] at e
   injection e with e1 e2
   injection e2 with e2 e3
   exact ⟨d::c::cs,by rw [yD,yD,e1,e2,e3], .swap _ _ _⟩
 |trans _ _ ih1 ih2=>
  obtain ⟨ds,h1,h2⟩:=ih2 e
  obtain ⟨fs,h3,h4⟩:=ih1 h1.symm
  exact ⟨fs,h3,h4.trans h2⟩
theorem iu:∀ds:List Addr,Vals (ds.map V.ref) (ds.map Value.ref)
 | []=> .nil
 |d::ds=> .cons rfl (iu ds)
theorem jG (hc:X.calm=true) (hu:X.A.units+60 < cLine):ci X (.builtin "sorted") (qv X.w):=by
 intro pins s σ H xs us Q I r h
 obtain ⟨a,cs,ts0,rfl,hH,hT0,hlen0,hts0,hcm0,q0⟩:=h
 obtain ⟨u,rfl,ru⟩:=dg r
 cases ru
 obtain ⟨⟨es,ep,t,rs,tk0,hes⟩,_,_⟩:=(show ObjOk X.prog X.w H s.heap a (sT X.w a cs) from I.hok a _ hH)
 have lc:=hT0.len
 rw [yo] at lc
 have h64:(64:Nat)≤sizeLine:=by decide +kernel
 have esz:es.size=cs.length:=by
  have:=congrArg List.length hes
  rw [yo,yo,yy] at this
  exact this
 refine lO (vs0:=cs.map Value.ref) (by rw [yo];omega) (fun Q' hQ'=> ?_) fun as d pm=> ?_
 · refine Sn.collect_set (A:=X.A.in1) (I.ok.hd hc) rs tk0 (by omega) fun h' tk d vs k1 sz hp=> ?_
   exact hQ' h' tk d vs k1 sz (by rw [←hes];exact hp)
 obtain ⟨ds,eas,pds⟩:=oX pm
 obtain ⟨ts,pts,hT⟩:=pD pds hT0
 obtain ⟨vs,evs⟩:∃vs,vs=ds.map V.ref:=⟨_,rfl⟩
 have rv:Vals vs as:=by rw [eas,evs];exact iu ds
 rw [←evs] at hT
 have l1:=hT.len
 have l2:=rv.length
 have tl:=pts.length_eq
 have hlen:ts.length < 64:=by omega
 have hts:∀t∈ts,Hs t∧t.pure∧t.depth≤40:=fun t m=>hts0 t (pts.mem_iff.mp m)
 have hcm:∀t∈ts,∀u∈ts,Cm t u:=fun t m u mu=>hcm0 t (pts.mem_iff.mp m) u (pts.mem_iff.mp mu)
 have q:∀(D:Addr) (ws:List V) (us:List Tr),H D=none→us.Perm ts→TrsAt H ws us→(∀(i j:Nat) (t u:Tr),i≤j→us[i]?=some t→us[j]?=some u→ltT u t=false)→Q (.ref D) (upd H D (.lst ws)):=fun D ws us h1 h2 h3 h4=>q0 D ws us h1 (h2.trans pts) h3 h4
 have O:Srt.Ord fun i j=>ltT (ts.getD i .non) (ts.getD j .non):=⟨fun a b h=>eQ h,fun a b c h1 h2=>r9 h1 h2⟩
 have at_:∀i,i < as.length→∃t v a,ts.getD i .non=t∧t∈ts∧TrAt H v t∧RelV v a∧as.getD i Value.none=a:=fun i hi=>by
  have hi':i < ts.length:=by omega
  obtain ⟨v,e1,e2⟩:=hT.get (i:=i) (t:=ts[i]) (yj hi')
  obtain ⟨a,e3,e4⟩:=rv.get e1
  exact ⟨ts[i],v,a,by rw [yS,yj hi'];rfl,zk hi',e2,e4,by rw [yS,e3];rfl⟩
 refine ⟨fun i j=>ltT (ts.getD i .non) (ts.getD j .non),tuples' true,O,fun h2 h' tk kp E' R hR=> ?_,fun h' tk kp i j R hi hj hR=> ?_,fun p hp hup h' tk D e kp sz he=> ?_⟩
 · have I':Inv X pins σ H {s with heap:=h',toks:=tk,drawn:=d}:=(I.kept (t':=tk) kp).drew
   obtain ⟨fs,k1,k2,k3⟩:=jA I' hT rv fun t m=>(hts t m).1
   refine kat_kind (T:=Value.type "str") k1 (by omega) (fun v m=> ?_) (by decide +kernel) ?_
   · obtain ⟨x,t,rfl⟩:=k3 v m
     exact .now
   · rw [show (Value.type "str" !=Value.type "tuple")=true by decide +kernel]
     exact hR
 · have I':Inv X pins σ H {s with heap:=h',toks:=tk,drawn:=d}:=(I.kept (t':=tk) kp).drew
   obtain ⟨t,v,a,et,mt,ht,ra,ea⟩:=at_ i hi
   obtain ⟨u,v',b,eu,mu,hu',rb,eb⟩:=at_ j hj
   have hc':=hcm t mt u mu
   obtain ⟨⟨x1,r1,rfl⟩,p1,d1⟩:=hts t mt
   obtain ⟨⟨x2,r2,rfl⟩,p2,d2⟩:=hts u mu
   unfold TrAt at ht hu'
   obtain ⟨x0,vs0,rfl,g0,g1⟩:=ht
   obtain ⟨y0,ws0,rfl,g2,g3⟩:=hu'
   cases ra
   cases rb
   obtain ⟨as0,o,n,q3,ho,hcl,hd'⟩:=eH I' g0
   obtain ⟨bs0,o',n',q4,ho',hcl',hd2⟩:=eH I' g2
   have z0:=g1.len
   have z1:=g3.len
   have z2:=q3.length
   have z3:=q4.length
   obtain ⟨y1,yr1,rfl,w1,w2⟩:=g1.inv
   obtain ⟨y2,yr2,rfl,w3,w4⟩:=g3.inv
   unfold TrAt at w1 w3
   subst w1 w3
   cases q3 with
   |cons q3 q3'=>
    cases q4 with
    |cons q4 q4'=>
     obtain ⟨tk1,rfl⟩:=q3
     obtain ⟨tk2,rfl⟩:=q4
     unfold Tr.depth at d1
     unfold Trs.depth at d1
     unfold Tr.pure at p1
     unfold Trs.pure at p1
     unfold kas_ask
     rw [ea,eb]
     refine kat_lt (b:=true) ho hd' ho' hd2 ?_
     rw [zq,zq]
     have hu1:X.A.in1.in1.units+40+1 < cLine:=by show X.A.units+1+1+40+1 < cLine;omega
     have e:∀q,lexV (decide ((Value.str x1 tk1::_).toArray.size < (Value.str x2 tk2::_).toArray.size)) ((x1==x2,decide (x1.cps.toList < x2.cps.toList))::q)=lexV (decide ((Tr.str x1::r1).length < (Tr.str x2::r2).length)) ((x1==x2,decide (x1.cps.toList < x2.cps.toList))::q):=fun q=>by
      rw [yp,yp,←z2,←z3,z0,z1]
     by_cases ex:(x1==x2)=true
     · unfold Cm at hc'
       unfold Cms at hc'
       have hc2:Cms r1 r2:=by
        rcases hc' with ⟨_,c⟩|⟨n,_⟩
        · exact c
        · unfold Tre.eqT at n
          rw [ex] at n
          cases n
       have hx':=jv (A:=X.A.in1.in1) I' hu1 (fun d pp cc a1 a2 b1 b2=>j4 I' 40 d pp cc a1 a2 b1 b2 hu1) (by omega) (.inl p1.2) hc2 w2 w4 q3' q4'
       refine nP hx' ?_
       rw [e]
       have e2:lexV (decide ((Tr.str x1::r1).length < (Tr.str x2::r2).length)) ((x1==x2,decide (x1.cps.toList < x2.cps.toList))::qs r1 r2)=ltT (ts.getD i .non) (ts.getD j .non):=by
        rw [et,eu]
        refine ba ?_
        rw [ltT_iff]
        have el:decide ((Tr.str x1::r1).length < (Tr.str x2::r2).length)=decide (r1.length < r2.length):=by simp
        have e4:=(eK x1 x2).mp ex
        simp only [lexV,ex,if_true,el,gh,Tre.code,Tre.codes,LtC,LtCs,e4]
        constructor
        · intro h;exact .inr ⟨trivial,h⟩
        · rintro (h|h)
          · exact absurd h (List.lt_irrefl _)
          · exact h.2
       rw [e2]
       exact hR
     · have exf:(x1==x2)=false:=by simpa using ex
       rw [zj]
       refine kat_cons (SeqAt.EqAt.str_str x1 tk1 x2 tk2 X.prog X.w _ _ ?_)
       rw [exf]
       refine kat_no ?_
       refine oneLt_str ?_
       have e2:decide (x1.cps.toList < x2.cps.toList)=ltT (ts.getD i .non) (ts.getD j .non):=by
        rw [et,eu]
        refine ba ?_
        rw [ltT_iff,decide_eq_true_iff]
        have ne:x1.cps.toList≠x2.cps.toList:=fun z=>ex ((eK x1 x2).mpr z)
        simp only [Tre.code,Tre.codes,LtC,LtCs,Co.str.injEq]
        constructor
        · intro h;exact .inl h
        · rintro (h|h)
          · exact h
          · exact absurd h.1 ne
       rw [e2]
       exact hR
 · have hin:∀i∈p.toList,i < ts.length:=fun i m=>by
    have:=yY.mp (List.Perm.mem_iff hp |>.mp m)
    omega
   refine ⟨.ref D,upd H D (.lst (p.toList.map fun i=>vs.getD i .non)),(I.laid (t':=tk) kp sz ?_).drew,rfl,?_⟩
   · refine ⟨?_,p.toList.map fun i=>as.getD i Value.none,e,Vals.map rv fun i m=>by have:=hin i m;omega,he⟩
     rw [yo,yy,hp.size]
     have:(64:Nat)≤sizeLine:=by decide +kernel
     omega
   · refine q _ _ (p.toList.map fun i=>ts.getD i .non) (I.hok.fresh sz) ?_ (TrsAt.map hT hin) fun i j t u hij e1 e2=> ?_
     · have:=List.Perm.map (fun i=>ts.getD i Tr.non) hp
       rw [show as.length=ts.length by omega,dy] at this
       exact this
     · rw [yL] at e1 e2
       obtain ⟨a,ea,rfl⟩:=yR.mp e1
       obtain ⟨b,eb,rfl⟩:=yR.mp e2
       have hj:j < as.length:=by
        have:=(yF.mp eb).1
        rw [yy,hp.size] at this
        exact this
       have:=hup i j hij hj
       rw [cC,cC,←yK,←yK,ea,eb] at this
       exact this
end
end Dj
namespace K05
open PySem L2 Mth EqD Tre Wd Su Dj
def As (l:List Tr):Prop:=l.Pairwise fun a b=>ltT a b=true
theorem yh {a b:List Tr} (h1:As a) (h2:As b) (h:∀t,t∈a↔t∈b):a=b:=by
 have e:a.map (fun t=>((t,zero):Pq))=b.map fun t=>((t,zero):Pq):=by
  refine sx (List.pairwise_map.mpr h1) (List.pairwise_map.mpr h2) fun p=> ?_
  simp only [yV]
  exact ⟨fun ⟨t,m,e⟩=>⟨t,(h t).mp m,e⟩,fun ⟨t,m,e⟩=>⟨t,(h t).mpr m,e⟩⟩
 have:=congrArg (List.map Prod.fst) e
 rw [List.map_map,List.map_map] at this
 have f:(Prod.fst ∘ fun t=>((t,zero):Pq))=id:=rfl
 rw [f,List.map_id,List.map_id] at this
 exact this
theorem sy:∀(l:List Tr),((l.zip (l.drop 1)).all fun x=>ltT x.1 x.2)=true↔As l
 | []=>by simp [As]
 | [a]=>by simp [As]
 |a::b::l=>by
  have ih:=sy (b::l)
  simp only [List.drop_succ_cons,List.drop_zero,zj,List.all_cons,yH] at ih ⊢
  unfold As at ih ⊢
  constructor
  · rintro ⟨h1,h2⟩
    have p:=ih.mp h2
    refine zu.mpr ⟨fun c m=> ?_,p⟩
    rcases yk.mp m with rfl|m
    · exact h1
    · exact oZ h1 ((zu.mp p).1 c m)
  · intro p
    obtain ⟨h1,h2⟩:=zu.mp p
    exact ⟨h1 b yn,ih.mpr h2⟩
theorem yg {l:List Tr} (ty:∀t∈l,Ty .tm t) (nd:l.Nodup) (srt:∀(i j:Nat) (t u:Tr),i≤j→l[i]?=some t→l[j]?=some u→ltT u t=false):As l:=by
 unfold As
 refine zd.mpr fun i j hi hj hij=> ?_
 have h1:=srt i j l[i] l[j] (by omega) (yj hi) (yj hj)
 refine uZ h1 ?_
 cases e:eqT l[i] l[j] with
 |false=>rfl
 |true=>
  have e2:=pH (ty _ (zk hi)) (ty _ (zk hj)) e
  exact absurd e2 ((zd.mp nd) i j hi hj hij)
theorem l5:∀ {a b:List Tr},(∀t∈a,Ty .tm t)→(∀t∈b,Ty .tm t)→(eqTs a b=true↔a=b)
 | [],[],_,_=>by simp [eqTs]
 | [],_::_,_,_=>by simp [eqTs]
 |_::_,[],_,_=>by simp [eqTs]
 |x::a,y::b,h1,h2=>by
  have ih:=l5 (a:=a) (b:=b) (fun t m=>h1 t (ym _ m)) fun t m=>h2 t (ym _ m)
  rw [eqTs,yH,ih,zf]
  constructor
  · rintro ⟨e,r⟩
    exact ⟨pH (h1 x yn) (h2 y yn) e,r⟩
  · rintro ⟨e,r⟩
    rw [e]
    exact ⟨i8 y,r⟩
theorem lW {ts us vs:List Tr} (ty:∀t∈ts,Ty .tm t) (nd:us.Nodup) (mem:∀t,t∈us↔t∈ts) (pm:vs.Perm us) (srt:∀(i j:Nat) (t u:Tr),i≤j→vs[i]?=some t→vs[j]?=some u→ltT u t=false):
 eqTs ts vs=((ts.zip (ts.drop 1)).all fun x=>ltT x.1 x.2):=by
 have tyv:∀t∈vs,Ty .tm t:=fun t m=>ty t ((mem t).mp (pm.mem_iff.mp m))
 have av:=yg tyv (pm.nodup_iff.mpr nd) srt
 rw [zc,l5 ty tyv,sy]
 constructor
 · intro e
   rw [e]
   exact av
 · intro h
   exact yh h av fun t=>⟨fun m=>pm.mem_iff.mpr ((mem t).mpr m),fun m=>(mem t).mp (pm.mem_iff.mp m)⟩
structure Gs (p:Pl):Prop where
 gp:Gp 6 20 p
 kw:Kw 7 p
theorem t6 {n:Nat} {p:Pl} (h:tmB n p=true) (k:Kw 7 p):pdep p≤8:=by
 cases n with
 |zero=>simp [tmB] at h
 |succ n=>
  have d:=rV p
  cases p with
  |tup ts=>
   obtain ⟨k1,_⟩:=cR k
   have:∃t∈ts,Kx t:=by
    match ts,h with
    | [a,b],h=>
     rw [tmB,yH] at h
     refine ⟨a,by simp, .inl ?_⟩
     cases a with
     |str x=>simpa [isS] using h.1
     |_=>cases h.1
    | [a,b,c],h=>
     rw [tmB,yH] at h
     refine ⟨a,by simp, .inr ?_⟩
     cases a with
     |str x=>simpa [isS] using h.1
     |_=>cases h.1
    | [],h=>simp [tmB] at h
    | [a],h=>simp [tmB] at h
    |a::b::c::e::r,h=>simp [tmB] at h
   have:=k1 this
   rw [dd] at d
   omega
  |_=>simp [tmB] at h
open PySem L2 Mth EqD Tre Wd Su Dj
theorem Gs.item {ts:List Pl} {t:Pl} (h:Gs (.tup ts)) (m:t∈ts):Gs t:=by
 obtain ⟨d',e,_,h2⟩:=h.gp.items
 exact ⟨(h2 t m).mono (yl _) (by omega),(cR h.kw).2 t m⟩
theorem Gs.four {ts:List Pl} (h:Gs (.tup ts)) (h2:∀t∈ts,toB 2 t=true):ts.length≤4:=by
 obtain ⟨gp,_⟩:=h
 refine Classical.byContradiction fun z=> ?_
 cases gp with
 |tup d _ _ hn _=>
  obtain ⟨u,m,e⟩:=hn (by omega)
  rw [h2 u m] at e
  cases e
theorem vQ {p:Pl} (h:prB p=true):toB 2 p=true:=by
 cases e:toB 2 p with
 |true=>rfl
 |false=>rw [lR e] at h;cases h
theorem fh:∀ {ts:List Pl} {t:Pl},t∈ts→pdep t≤psdep ts
 |a::ts,t,m=>by
  rw [psdep]
  rcases yk.mp m with rfl|m
  · omega
  · have:=fh m
    omega
theorem rH {l d:Nat} {p:Pl} (h:Gp l d p):∀a b,p= .tup [.int a, .int b]→Big a∧Big b:=fun a b e=>by
 subst e
 obtain ⟨d',_,_,h2⟩:=h.items
 have up:(10:Nat)^200≤2^8000:=by decide +kernel
 have one:∀i:Int,Gp l d' (.int i)→Big i:=fun i h=>by
  cases h with
  |int _ _ a=>exact yB a up
 exact ⟨one a (h2 _ (by simp)),one b (h2 _ (by simp))⟩
theorem tH {p:Pl} (h:prB p=true):∃a b,p= .tup [a,b]∧tmB 20 a=true:=by
 unfold prB at h
 split at h
 · rename_i a b
   rw [yH] at h
   exact ⟨a,b,rfl,h.1⟩
 · cases h
mutual
theorem pF:∀(p:Pl),(toTr p).depth≤pdep p
 | .tup ts=>by
  rw [toTr,pdep,Tr.depth]
  have:=trs_dep ts
  omega
 | .non=>by rw [toTr,Tr.depth]<;>simp
 | .bl _=>by rw [toTr,Tr.depth]<;>simp
 | .int _=>by rw [toTr,Tr.depth]<;>simp
 | .str _=>by rw [toTr,Tr.depth]<;>simp
 | .lst=>by rw [toTr,Tr.depth]<;>simp
 | .dct=>by rw [toTr,Tr.depth]<;>simp
theorem trs_dep:∀(ts:List Pl),Trs.depth (toTrs ts)≤psdep ts
 | []=>by rw [toTrs,Trs.depth];omega
 |t::ts=>by
  rw [toTrs,Trs.depth,psdep]
  have h1:=pF t
  have h2:=trs_dep ts
  omega
end
section
variable {P:Program} {w:World} {K:PySem.W.Frag} {mg:Str→Option Value} {base:Heap}
def spLs:Sp:=fun vs H Q _=>∃(v:V) (p:Pl),vs= [v]∧PlAt H v p∧Gs p∧∀H',Same H H'→Q (.bl (smB p)) H'
theorem scLs:az ["_law_thing","_law_terms","_law_pair"] ["_law_thing"] (ag sLSq):=⟨rfl,rfl,rfl,by decide +kernel,rfl,by decide +kernel,by decide +kernel⟩
theorem w9 {f fT fS:Addr} {fd dT dS:FuncData} (F:Fun K "_law_is_sum" "_law_is_sum" sLSq f fd) (B:Blt mg) (mS0:mg "set"=none)
 (gT:FnOk P w K mg base CX0 42 fT dT ["_law_thing"] (spLT 20)) (kT:PySem.W.keepIn K (.ref fT)=true) (bT:Binds K dT ["_law_thing"] []) (mT:mg "_law_is_term"=some (.ref fT))
 (gS:FnOk P w K mg base CX0 3 fS dS ["_law_thing"] spSq) (kS:PySem.W.keepIn K (.ref fS)=true) (bS:Binds K dS ["_law_thing"] []) (mS:mg "_law_is_share"=some (.ref fS)):FnOk P w K mg base CX0 43 f fd ["_law_thing"] spLs:=by
 refine F.ok scLs (fun vs H Q E h=> ?_) (fun cdv A outer s H vs Q E hr h=> ?_)
 · obtain ⟨v,p,rfl,_⟩:=h
   rfl
 obtain ⟨v,p,rfl,hv,hg,k⟩:=h
 have hr3:Room 3 _:=hr.mono (by decide)
 have hun:=hr.units
 have hu60:_+60 < cLine:=yG (yW (by decide) _) hun
 refine ⟨_,ae (aM (aS (aJ (ao (r:=rIsi K) aN rfl B.isi am (a9 (pv 0) (a9 (aT (v:= .ty "tuple") rfl B.tu PyProof.Rows.boot_tuple rfl) aa))))) (ai (ak bR)) aw)
  (ae (aA (i:=1) scLs.nd rfl (Or.inl rfl) (aR aa))
  (ae (fj PassesOwn.never rfl (fk (pv 0)) (aQ (i:=2) scLs.nd rfl (Or.inl rfl))
   (ae (aM (PW.pt (bQ (aS (aJ (ao (r:=rIsi K) aN rfl B.isi am (a9 (pv 2) (a9 (aT (v:= .ty "tuple") rfl B.tu PyProof.Rows.boot_tuple rfl) aa))))) (bQ (aE kh (ao aU rfl B.le PySem.boot_len (a9 (pv 2) aa)) ac (ax _)) (bK (aS (aJ (af gT hr rfl mT kT bT .nil aj (a9 (aq ar (pv 2) ac fun _ _=>rfl) aa))))))))
    (ai (ak bR)) aw)
   (ae (aM (PW.pt (bQ (aS (aJ (af gS hr3 rfl mS kS bS .nil aj (a9 (aq ar (pv 2) ac fun _ _=>rfl) aa)))) (bK (aE cf (aq ar (aq ar (pv 2) ac fun _ _=>rfl) ac fun _ _=>rfl) ac (ax _)))))
    (ai (ak bR)) aw)
   (ai (ge (nr PySem.F.plainAttrs_list PySem.F.slot_list_append PySem.F.type_list_append dB (pv 1) (a9 (aq ar (pv 2) ac fun _ _=>rfl) aa)))))))
  (ai (ak (aY (qR hu60) (pv 1) (ao (jG rfl hu60) rfl B.so PyProof.Rows.boot_sorted (a9 (bJ (pk rfl hu60) rfl mS0 PyProof.Rows.boot_set (a9 (pv 1) aa)) aa)) (ax _)))))),?_⟩
 have hL:(20000:Nat)≤sizeLine:=by decide +kernel
 have done_f:∀ {ts:List Pl} {t:Pl},t∈ts→prB t=false→smB (.tup ts)=false:=fun {ts t} m e=>by
  show (ts.all prB&&ascB ts)=false
  have:ts.all prB=false:=List.all_eq_false.mpr ⟨t,m,by rw [e];decide⟩
  rw [this]
  rfl
 refine ⟨_,rfl,v, .ty "tuple",_,bV p,rfl,bw hv, .inl ⟨rfl,bz K p⟩,_,rfl,?_⟩
 cases p with
 |tup ts=>
  refine iteF ?_
  refine bc ?_
  dsimp only
  have hv':=hv
  unfold PlAt at hv'
  obtain ⟨r,vs,rfl,g,hTs⟩:=hv'
  have tl:=hTs.len
  refine ⟨by show 0≤sizeLine;decide,fun L nL=> ?_⟩
  have s1:=ah (o:= .lst []) nL
  refine aV ?_
  try dsimp only
  refine ⟨_,rfl,r,rfl,⟨vs,SqT.of (s1 _ _ g)⟩,?_⟩
  refine ut (xs:=vs) (fun i σ H'=>Same H H'∧(∀t∈ts.take i,prB t=true)∧∃(ws:List V) (x2:Option V),σ= [some (.ref r),some (.ref L),x2]∧H' L=some (.lst ws)∧TrsAt H' ws ((ts.take i).map fun t=>toTr (fstP t)))
   ⟨s1,(fun t m=>by rw [List.take_zero] at m;cases m),[],none,rfl,ad, .nil⟩ (fun i σ H' _ q=>SqT.of (q.1 _ _ g)) ?_ ?_
  · rintro i x σ H1 ex ⟨sH,hpr,ws,x2,rfl,hL1,hT1⟩
    obtain ⟨t,et,hx⟩:=(hTs.mono (Ke.of_same sH)).get' ex
    have mt:=yw et
    have gt:=hg.item mt
    have bad:prB t=false→∀H',Same H1 H'→Q (.bl false) H':=fun e H' s'=>by
     have:=k H' (sH.trans s')
     rw [done_f mt e] at this
     exact this
    refine aV ?_
    try dsimp only
    refine c7 (fun σ' H'=>Same H1 H'∧σ'= [some (.ref r),some (.ref L),some x]∧∃a b,t= .tup [a,b]∧tmB 20 a=true) ?_ fun nx hnx=> ?_
    rotate_left
    · refine ⟨_,rfl,x, .ty "tuple",_,bV t,rfl,bw hx, .inl ⟨rfl,bz K t⟩,_,rfl,?_⟩
      cases t with
      |tup us=>
       refine iteF ?_
       have hx':=hx
       unfold PlAt at hx'
       obtain ⟨q,xs,rfl,gq,hus⟩:=hx'
       have ul:=hus.len
       refine ⟨_,rfl,q,xs,rfl, .inr (SqT.of gq),rfl,_,rfl,?_⟩
       by_cases l2:us.length=2
       · refine if_f (by rw [decide_eq_true (by rw [ul,l2];rfl)];rfl) ?_
         match us,l2 with
         | [a,b],_=>
          obtain ⟨y1,ys,rfl,ha,h2⟩:=hus.inv
          have ga:Gs a:=gt.item (by simp)
          refine ⟨_,rfl,q,_,0,y1,rfl,rfl,SqT.of gq,be (j:=0) (by simp),y1,a,rfl,ha,ga.gp.sa (by decide),?_,fun H2 s2=>⟨_,rfl,?_⟩⟩
          · have d1:=gt.gp.dep
            have d2:pdep a+1≤pdep (.tup [a,b]):=by
             rw [pdep,psdep]
             omega
            have:pdep (.tup [a,b])+1≤pdep (.tup ts):=by
             have:=fh mt
             have e:pdep (.tup ts)=psdep ts+1:=by rw [pdep]
             omega
            have:=hg.gp.dep
            omega
          · cases et2:tmB 20 a with
            |false=>exact iteT (bad (by show (tmB 20 a&& (frB b&& !zB b))=false;rw [et2];rfl) _ s2)
            |true=>exact iteF (hnx _ _ ⟨s2,rfl,a,b,rfl,et2⟩)
       · refine if_t (by rw [decide_eq_false (fun e=>l2 (by have:=V.int.inj e;omega))];rfl) ?_
         refine iteT ?_
         exact bad (lR (decide_eq_false (by omega))) _ (Same.refl _)
      |_=>exact iteT (iteT (bad rfl _ (Same.refl _)))
    rintro σ' H2 ⟨s2,rfl,a,b,rfl,hta⟩
    have hx2:=hx.mono (Ke.of_same s2)
    have hx':=hx2
    unfold PlAt at hx'
    obtain ⟨q,xs,rfl,gq,hus⟩:=hx'
    obtain ⟨y1,ys,rfl,ha,hb0⟩:=hus.inv
    obtain ⟨y2,ys2,rfl,hb,hn⟩:=hb0.inv
    unfold PlsAt at hn
    subst hn
    have gb:Gs b:=gt.item (by simp)
    have ga:Gs a:=gt.item (by simp)
    refine c7 (fun σ' H'=>Same H2 H'∧σ'= [some (.ref r),some (.ref L),some (.ref q)]∧prB (.tup [a,b])=true) ?_ fun nx hnx=> ?_
    rotate_left
    · refine ⟨_,rfl,q,_,1,y2,rfl,rfl,SqT.of gq,be (j:=1) (by simp),y2,b,rfl,hb,rH gb.gp,fun H3 s3=>⟨_,rfl,?_⟩⟩
      cases ef:frB b with
      |false=>exact iteT (iteT (bad (by show (tmB 20 a&& (frB b&& !zB b))=false;rw [ef,hta];rfl) _ (s2.trans s3)))
      |true=>
       refine iteF ?_
       obtain ⟨c,e,rfl⟩:=o7 ef
       have hb3:=hb.mono (Ke.of_same s3)
       unfold PlAt at hb3
       obtain ⟨q2,zs,rfl,gq2,hzs⟩:=hb3
       obtain ⟨z1,zr,rfl,hz1,_⟩:=hzs.inv
       unfold PlAt at hz1
       subst hz1
       refine ⟨_,rfl,q,_,1, .ref q2,rfl,rfl,SqT.of (s3 _ _ gq),be (j:=1) (by simp),q2,_,0, .int c,rfl,rfl,SqT.of gq2,be (j:=0) (by simp),rfl,_,rfl,?_⟩
       by_cases z:c=0
       · refine if_t (decide_eq_true (by rw [z])) ?_
         refine bad ?_ _ (s2.trans s3)
         have e1:e=1:=by
          unfold frB at ef
          rw [yH,decide_eq_true_iff,decide_eq_true_iff,z] at ef
          have h1:=ef.1
          have h2:=ef.2
          rw [Int.gcd_zero_left] at h2
          omega
         show (tmB 20 a&& (frB (.tup [.int c, .int e])&& !zB (.tup [.int c, .int e])))=false
         rw [z,e1]
         simp [zB]
       · refine if_f (decide_eq_false (fun q=>z (V.int.inj q))) ?_
         refine hnx _ _ ⟨s3,rfl,?_⟩
         show (tmB 20 a&& (frB (.tup [.int c, .int e])&& !zB (.tup [.int c, .int e])))=true
         rw [hta,ef]
         simp [zB,z]
    rintro σ' H3 ⟨s3,rfl,hpt⟩
    have s23:=s2.trans s3
    have gL3:=s23 _ _ hL1
    have tyA:=jP 20 hta
    have ha3:TrAt H3 y1 (toTr a):=mU (ha.mono (Ke.of_same s3)) (cT tyA.1)
    have wl:=hT1.len
    rw [yo,yN] at wl
    have il:i < ts.length:=(yF.mp et).1
    have l6:ts.length≤6:=by
     obtain ⟨_,_,h6,_⟩:=hg.gp.items
     exact h6
    refine ⟨_,rfl, .inl ⟨rfl,_,SqL.of gL3⟩,_,rfl,q,_,0,y1,rfl,rfl,SqT.of (s3 _ _ gq),be (j:=0) (by simp),L,ws,_,rfl,rfl,gL3,by omega,?_⟩
    have kd:=Kd.upd (ys:=ws++ [y1]) gL3
    have etk:ts.take (i+1)=ts.take i++ [.tup [a,b]]:=by rw [z7,et];rfl
    refine ⟨c8 nL (sH.trans s23),fun t m=> ?_,ws++ [y1],_,rfl,ad,?_⟩
    · rw [etk] at m
      rcases yx.mp m with m|m
      · exact hpr t m
      · rw [yv.mp m]
        exact hpt
    · rw [etk,zh]
      exact TrsAt.app (.cons (ha3.mono kd) .nil) (hT1.mono ((Kd.of_same s23).trans kd))
  · rintro σ H1 ⟨sH,hpr,ws,x2,rfl,hL1,hT1⟩
    rw [zg (by omega)] at hpr hT1
    have l4:=hg.four fun t m=>vQ (hpr t m)
    have trm:∀x∈ts.map (fun t=>toTr (fstP t)),Ty .tm x∧x.depth≤8:=fun x m=>by
     obtain ⟨t,mt,rfl⟩:=yV.mp m
     obtain ⟨a,b,rfl,hta⟩:=tH (hpr t mt)
     exact ⟨(jP 20 hta).1,yU (pF a) (t6 hta ((hg.item mt).item (by simp)).kw)⟩
    have smE:smB (.tup ts)=(((ts.map fun t=>toTr (fstP t)).zip ((ts.map fun t=>toTr (fstP t)).drop 1)).all fun x=>ltT x.1 x.2):=by
     show (ts.all prB&&ascB ts)=_
     rw [z5.mpr hpr,Bool.true_and]
     unfold ascB
     rw [←List.map_drop,List.zip_map,List.all_map]
     rfl
    have hlen:(ts.map fun t=>toTr (fstP t)).length≤4:=by rw [yo];exact l4
    generalize (ts.map fun t=>toTr (fstP t))=trs at hT1 trm smE hlen
    refine ⟨_,rfl,_,rfl,L,ws,trs,rfl,hL1,hT1,hlen,trm,fun D cs us nD hcs nd mem ul=> ?_⟩
    have sD:=ah (o:=sT w D cs) nD
    have trU:∀x∈us,Ty .tm x∧x.depth≤8:=fun x m=>trm x ((mem x).mp m)
    refine ⟨D,cs,us,rfl,ad,hcs.mono (Kd.of_same sD),by omega,fun x m=>⟨uP (trU x m).1,cT (trU x m).1,by have:=(trU x m).2;omega⟩,fun x m y my=>pA 40 (by have:=(trU x m).2;omega) (trU x m).1 (trU y my).1,fun D2 ws2 vs2 nD2 pm hT2 srt=> ?_⟩
    have sE:=ah (o:= .lst ws2) nD2
    have sDE:=sD.trans sE
    refine ⟨L,D2,ws,ws2,trs,vs2,rfl,rfl,sDE _ _ hL1,ad,hT1.mono (Kd.of_same sDE),hT2.mono (Kd.of_same sE), .inl (dl fun x m=>cT (trm x m).1),?_,?_⟩
    · have:=dI (n:=8) (ts:=trs) fun x m=>(trm x m).2
      omega
    · have:=k _ (sH.trans sDE)
      rw [smE,←lW (fun x m=>(trm x m).1) nd mem pm srt] at this
      have e:∀b:Bool,(b==true)=b:=by decide
      rw [e]
      exact this
 |_=>first|exact iteT (k H (Same.refl H))|exact iteT (iteT (k H (Same.refl H)))
end
open PySem L2 Mth EqD Tre Wd Su Dj
theorem mr {x y:Str} {p:Pl} (h:isS x p=true) (n:x.cps.toList≠y.cps.toList):isS y p=false:=by
 cases p with
 |str z=>
  have e:z=x:=by simpa [isS] using h
  subst e
  cases q:isS y (.str z) with
  |false=>rfl
  |true=>
   have e2:z=y:=by simpa [isS] using q
   exact absurd (by rw [e2]) n
 |_=>cases h
theorem vb {z:Str} {n:Int} {p:Pl} (h:toB n p=false):hdB z n p=false:=by
 cases p with
 |tup ts=>
  have:decide ((ts.length:Int)=n)=false:=h
  show (decide ((ts.length:Int)=n)&&_)=false
  rw [this]
  rfl
 |_=>rfl
section
variable {P:Program} {w:World} {K:PySem.W.Frag} {mg:Str→Option Value} {base:Heap}
def spLw (n:Nat):Sp:=fun vs H Q _=>∃(v:V) (p:Pl),vs= [v]∧PlAt H v p∧Gs p∧pdep p < n∧∀H',Same H H'→Q (.bl (wsB n p)) H'
theorem scLw:az ["_law_thing"] ["_law_thing"] (ag sLWq):=⟨rfl,rfl,rfl,by decide +kernel,rfl,by decide +kernel,by decide +kernel⟩
theorem xH {f fH fN fM fS fT:Addr} {fd dH dN dM dS dT:FuncData} (F:Fun K "_law_is_wish" "_law_is_wish" sLWq f fd) (bF:Binds K fd ["_law_thing"] []) (mF:mg "_law_is_wish"=some (.ref f)) (B:Blt mg)
 (gH:FnOk P w K mg base CX0 1 fH dH ["_law_thing","_law_word","_law_many"] spHd) (kH:PySem.W.keepIn K (.ref fH)=true) (bH:Binds K dH ["_law_thing","_law_word","_law_many"] []) (mH:mg "_law_headed"=some (.ref fH))
 (gN:FnOk P w K mg base CX0 1 fN dN ["_law_thing"] spLN) (kN:PySem.W.keepIn K (.ref fN)=true) (bN:Binds K dN ["_law_thing"] []) (mN:mg "_law_is_name"=some (.ref fN))
 (gM:FnOk P w K mg base CX0 43 fM dM ["_law_thing"] spLs) (kM:PySem.W.keepIn K (.ref fM)=true) (bM:Binds K dM ["_law_thing"] []) (mM:mg "_law_is_sum"=some (.ref fM))
 (gS:FnOk P w K mg base CX0 3 fS dS ["_law_thing"] spSq) (kS:PySem.W.keepIn K (.ref fS)=true) (bS:Binds K dS ["_law_thing"] []) (mS:mg "_law_is_share"=some (.ref fS))
 (gT:FnOk P w K mg base CX0 42 fT dT ["_law_thing"] (spLT 20)) (kT:PySem.W.keepIn K (.ref fT)=true) (bT:Binds K dT ["_law_thing"] []) (mT:mg "_law_is_term"=some (.ref fT)):
 ∀n,FnOk P w K mg base CX0 (n+44) f fd ["_law_thing"] (spLw n):=by
 intro n
 induction n with
 |zero=>exact ⟨fun vs H Q E ⟨_,_,_,_,_,h,_⟩=>absurd h (by omega),fun A outer s H args us vs Q E _ _ _ _ ⟨_,_,_,_,_,h,_⟩=>absurd h (by omega)⟩
 |succ n ih=>
  refine F.ok scLw (fun vs H Q E h=> ?_) (fun cdv A outer s H vs Q E hr h=> ?_)
  · obtain ⟨v,p,rfl,_⟩:=h
    rfl
  obtain ⟨v,p,rfl,hv,hg,hd,k⟩:=h
  have hr1:Room 1 _:=hr.mono (by omega)
  have hr3:Room 3 _:=hr.mono (by omega)
  have hr42:Room 42 _:=hr.mono (by omega)
  have hr43:Room 43 _:=hr.mono (by omega)
  have hu1:=i5 hr
  refine ⟨_,ae (aM (aJ (af gH hr1 rfl mH kH bH .nil aj (a9 (pv 0) (a9 aG (a9 ac aa))))) (ai (ak (af gN hr1 rfl mN kN bN .nil aj (a9 (aq ar (pv 0) ac fun _ _=>rfl) aa)))) aw)
   (ae (aM (aJ (af gH hr1 rfl mH kH bH .nil aj (a9 (pv 0) (a9 aG (a9 ac aa))))) (ai (ak (b7 (af gM hr43 rfl mM kM bM .nil aj (a9 (aq ar (pv 0) ac fun _ _=>rfl) aa)) (bn (af gS hr3 rfl mS kS bS .nil aj (a9 (aq ar (pv 0) ac fun _ _=>rfl) aa)))))) aw)
   (ae (aM (aJ (af gH hr1 rfl mH kH bH .nil aj (a9 (pv 0) (a9 aG (a9 ac aa))))) (ai (ak (b7 (af gT hr42 rfl mT kT bT .nil aj (a9 (aq ar (pv 0) ac fun _ _=>rfl) aa)) (bn (af gT hr42 rfl mT kT bT .nil aj (a9 (aq ar (pv 0) ac fun _ _=>rfl) aa)))))) aw)
   (ae (aM (aJ (af gH hr1 rfl mH kH bH .nil aj (a9 (pv 0) (a9 aG (a9 ac aa))))) (ai (ak (af ih hr rfl mF F.kp bF .nil aj (a9 (aq ar (pv 0) ac fun _ _=>rfl) aa)))) aw)
   (ae (aM (PW.pt (eA (aS (aJ (af gH hr1 rfl mH kH bH .nil aj (a9 (pv 0) (a9 aG (a9 ac aa)))))) (dz (aS (aJ (af gH hr1 rfl mH kH bH .nil aj (a9 (pv 0) (a9 aG (a9 ac aa))))))))) (ai (ak bR)) aw)
   (ai (ak (b7 (ao (r:=rIsi K) aN rfl B.isi am (a9 (aq ar (pv 0) ac fun _ _=>rfl) (a9 (aT (v:= .ty "tuple") rfl B.tu PyProof.Rows.boot_tuple rfl) aa))) (bn (aY (hG hu1) (br (NC:= ["_law_one"]) (mp:= [none]) rfl (fk (aq ar (pv 0) ac fun _ _=>rfl)) (fun _ _ _ _ _=>aQ (i:=0) (show (["_law_one"]:List Str).Nodup by decide +kernel) rfl (Or.inl rfl)) (fun _ _ _ _ _=>eO (aS (aJ (af ih hr rfl mF F.kp bF .nil aj (a9 (pv 0) aa))))) (fun _ _ _ _ _=>pv 0)) (aR aa) (ax _)))))))))),?_⟩
  have hL:(20000:Nat)≤sizeLine:=by decide +kernel
  have two:∀ {z:Str} {a b:Pl},hdB z 2 (.tup [a,b])=isS z a∧hdB z 3 (.tup [a,b])=false:=fun {z a b}=>⟨by simp [hdB],by simp [hdB]⟩
  have three:∀ {z:Str} {a b c:Pl},hdB z 2 (.tup [a,b,c])=false∧hdB z 3 (.tup [a,b,c])=isS z a:=fun {z a b c}=>⟨by simp [hdB],by simp [hdB]⟩
  rcases fK p with ⟨a,b,rfl⟩|⟨a,b,c,rfl⟩|⟨e2,e3,et⟩
  · obtain ⟨r,x,y,rfl,g,hx,hy⟩:=pl2 hv
    have gb:Gs b:=hg.item (by simp)
    have db:pdep b < n:=by
     simp only [pdep,psdep] at hd
     omega
    have wE:wsB (n+1) (.tup [a,b])=if isS "not" a=true then wsB n b else if (isS "both" a ||isS "either" a)=true then bV b&& (isT b).all (wsB n) else (isS "flag" a&&nmB b):=by
     rw [wsB,if_pos (show toB 2 (.tup [a,b])=true by simp [toB])]
     rfl
    rw [wE] at k
    refine ⟨_,rfl, .ref r,_,_,2,rfl,hv,by decide,_,rfl,?_⟩
    rw [two.1]
    cases ef:isS (Str.ofString "flag") a with
    |true=>
     refine iteT ?_
     refine ⟨_,rfl,r,_,1,y,rfl,rfl,SqT.of g,rfl,y,b,rfl,hy,qh (gb.gp.sa (by decide)),fun H1 s1=> ?_⟩
     rw [←rg]
     have:=k H1 s1
     rw [mr ef (y:=Str.ofString "not") (by decide +kernel),mr ef (y:=Str.ofString "both") (by decide +kernel),mr ef (y:=Str.ofString "either") (by decide +kernel),ef] at this
     exact this
    |false=>
     refine iteF ?_
     refine bc ?_
     dsimp only
     refine ⟨_,rfl, .ref r,_,_,3,rfl,hv,by decide,_,rfl,?_⟩
     rw [two.2]
     refine iteF ?_
     refine bc ?_
     dsimp only
     refine ⟨_,rfl, .ref r,_,_,3,rfl,hv,by decide,_,rfl,?_⟩
     rw [two.2]
     refine iteF ?_
     refine bc ?_
     dsimp only
     refine ⟨_,rfl, .ref r,_,_,2,rfl,hv,by decide,_,rfl,?_⟩
     rw [two.1]
     cases en:isS (Str.ofString "not") a with
     |true=>
      refine iteT ?_
      rw [en] at k
      exact ⟨_,rfl,r,_,1,y,rfl,rfl,SqT.of g,rfl,y,b,rfl,hy,gb,db,k⟩
     |false=>
      rw [en,ef] at k
      refine iteF ?_
      refine bc ?_
      dsimp only
      refine c7 (fun σ' H'=>σ'= [some (.ref r)]∧H=H'∧(isS "both" a ||isS "either" a)=true) ?_ fun nx hnx=> ?_
      rotate_left
      · refine ⟨_,rfl, .ref r,_,_,2,rfl,hv,by decide,_,rfl,?_⟩
        rw [two.1]
        cases eb:isS (Str.ofString "both") a with
        |true=>first|exact iteF (hnx _ _ ⟨rfl,rfl,by show (isS (Str.ofString "both") a ||_)=true;rw [eb];rfl⟩)|exact iteF (iteF (hnx _ _ ⟨rfl,rfl,by show (isS (Str.ofString "both") a ||_)=true;rw [eb];rfl⟩))
        |false=>
         refine iteT ?_
         refine ⟨_,rfl, .ref r,_,_,2,rfl,hv,by decide,_,rfl,?_⟩
         rw [two.1]
         cases ee:isS (Str.ofString "either") a with
         |true=>exact iteF (hnx _ _ ⟨rfl,rfl,by show (_ ||isS (Str.ofString "either") a)=true;rw [ee,Bool.or_true]⟩)
         |false=>
          refine iteT ?_
          have:=k H (Same.refl H)
          rw [show (isS "both" a ||isS "either" a)=false by show (isS (Str.ofString "both") a ||isS (Str.ofString "either") a)=false;rw [eb,ee];rfl] at this
          exact this
      rintro _ _ ⟨rfl,rfl,ebe⟩
      rw [ebe] at k
      refine ⟨_,rfl,r,_,1,y,rfl,rfl,SqT.of g,rfl,y, .ty "tuple",_,bV b,rfl,bw hy, .inl ⟨rfl,bz K b⟩,_,rfl,?_⟩
      cases b with
      |tup ts=>
       refine iteT ?_
       have hy':=hy
       unfold PlAt at hy'
       obtain ⟨q,vs,rfl,gq,hT⟩:=hy'
       have tl:=hT.len
       refine lL ?_
       refine cN rfl ?_
       refine ⟨_,rfl,r,_,1, .ref q,rfl,rfl,SqT.of g,rfl,q,rfl,⟨vs,SqT.of gq⟩,fun D nD=> ?_⟩
       have l6:ts.length≤6:=by
        obtain ⟨_,_,h6,_⟩:=gb.gp.items
        exact h6
       refine iQ (xs:=vs) (fun i acc H'=>Same H H'∧H' D=some (.lst acc)∧acc.length≤i∧acc.isEmpty=(ts.take i).all (wsB n)) ⟨ah nD,ad,yl _,rfl⟩ (fun i acc H' p=>SqT.of (p.1 _ _ gq)) ?_ ?_
       · rintro i u acc H3 hi eu ⟨s3,hD,al,ea⟩
         obtain ⟨t,et,ht⟩:=hT.get' eu
         have mt:=yw et
         have etk:(ts.take (i+1)).all (wsB n)=((ts.take i).all (wsB n)&&wsB n t):=by
          rw [z7,et,List.all_append]
          simp
         refine ⟨_,rfl,u,t,rfl,ht.mono (Ke.of_same s3),gb.item mt,?_,fun H4 s4=> ?_⟩
         · have:=fh mt
           have e:pdep (.tup ts)=psdep ts+1:=by rw [pdep]
           omega
         · refine ⟨_,rfl,?_⟩
           cases etm:wsB n t with
           |true=>
            refine iteF (CompS.mk hi ⟨s3.trans s4,s4 _ _ hD,by omega,?_⟩)
            rw [etk,etm,Bool.and_true]
            exact ea
           |false=>
            refine iteT ⟨_,rfl,CompN.mk hi (by omega) (s4 _ _ hD) ⟨c8 nD (s3.trans s4),ad,by rw [yt,yJ];omega,?_⟩⟩
            rw [etk,etm,Bool.and_false]
            simp
       · rintro acc H3 ⟨s3,hD,al,ea⟩
         rw [tl,zt] at ea
         refine ⟨by show 0≤sizeLine;decide,fun L nL=> ?_⟩
         have sL:=ah (o:= .lst []) nL
         refine ⟨D,L,_,rfl,rfl,sL _ _ hD,ad,?_⟩
         have k':=k _ (s3.trans sL)
         rw [ea]
         exact k'
      |_=>exact iteF (k H (Same.refl H))
  · obtain ⟨r,x,y,z,rfl,g,hx,hy,hz⟩:=pl3 hv
    have gb:Gs b:=hg.item (by simp)
    have gc:Gs c:=hg.item (by simp)
    have dd:=hg.gp.dep
    have db:pdep b < 20∧pdep c < 20:=by
     simp only [pdep,psdep] at dd
     omega
    have wE:wsB (n+1) (.tup [a,b,c])=if isS (Str.ofString "most") a=true then smB b&&frB c else isS (Str.ofString "like") a&& (tmB 20 b&&tmB 20 c):=by
     rw [wsB,if_neg (show¬toB 2 (.tup [a,b,c])=true by simp [toB])]
     rfl
    rw [wE] at k
    refine ⟨_,rfl, .ref r,_,_,2,rfl,hv,by decide,_,rfl,?_⟩
    rw [three.1]
    refine iteF ?_
    refine bc ?_
    dsimp only
    refine ⟨_,rfl, .ref r,_,_,3,rfl,hv,by decide,_,rfl,?_⟩
    rw [three.2]
    cases em:isS (Str.ofString "most") a with
    |true=>
     rw [em] at k
     refine iteT ?_
     refine ⟨_,rfl,r,_,1,y,rfl,rfl,SqT.of g,rfl,y,b,rfl,hy,gb,fun H1 s1=>⟨_,rfl,?_⟩⟩
     cases es:smB b with
     |false=>
      rw [es] at k
      exact iteF (k H1 s1)
     |true=>
      rw [es] at k
      refine iteT ?_
      exact ⟨_,rfl,r,_,2,z,rfl,rfl,SqT.of (s1 _ _ g),rfl,z,c,rfl,hz.mono (Ke.of_same s1),rH gc.gp,fun H2 s2=>k H2 (s1.trans s2)⟩
    |false=>
     rw [em] at k
     refine iteF ?_
     refine bc ?_
     dsimp only
     refine ⟨_,rfl, .ref r,_,_,3,rfl,hv,by decide,_,rfl,?_⟩
     rw [three.2]
     cases el:isS (Str.ofString "like") a with
     |true=>
      rw [el] at k
      refine iteT ?_
      refine ⟨_,rfl,r,_,1,y,rfl,rfl,SqT.of g,rfl,y,b,rfl,hy,gb.gp.sa (by decide),db.1,fun H1 s1=>⟨_,rfl,?_⟩⟩
      cases es:tmB 20 b with
      |false=>
       rw [es] at k
       exact iteF (k H1 s1)
      |true=>
       rw [es] at k
       refine iteT ?_
       exact ⟨_,rfl,r,_,2,z,rfl,rfl,SqT.of (s1 _ _ g),rfl,z,c,rfl,hz.mono (Ke.of_same s1),gc.gp.sa (by decide),db.2,fun H2 s2=>k H2 (s1.trans s2)⟩
     |false=>
      rw [el] at k
      refine iteF ?_
      refine bc ?_
      dsimp only
      refine ⟨_,rfl, .ref r,_,_,2,rfl,hv,by decide,_,rfl,?_⟩
      rw [three.1]
      refine iteF ?_
      refine bc ?_
      dsimp only
      refine ⟨_,rfl, .ref r,_,_,2,rfl,hv,by decide,_,rfl,?_⟩
      rw [three.1]
      refine iteT ?_
      refine ⟨_,rfl, .ref r,_,_,2,rfl,hv,by decide,_,rfl,?_⟩
      rw [three.1]
      refine iteT ?_
      exact k H (Same.refl H)
  · have hn:∀z,hdB z 2 p=false∧hdB z 3 p=false:=fun z=>⟨vb e2,vb e3⟩
    have wE:wsB (n+1) p=false:=by
     rw [wsB,if_neg (by rw [e2];decide),vj e2 e3]
    rw [wE] at k
    refine ⟨_,rfl,v,_,_,2,rfl,hv,by decide,_,rfl,?_⟩
    rw [(hn _).1]
    refine iteF ?_
    refine bc ?_
    dsimp only
    refine ⟨_,rfl,v,_,_,3,rfl,hv,by decide,_,rfl,?_⟩
    rw [(hn _).2]
    refine iteF ?_
    refine bc ?_
    dsimp only
    refine ⟨_,rfl,v,_,_,3,rfl,hv,by decide,_,rfl,?_⟩
    rw [(hn _).2]
    refine iteF ?_
    refine bc ?_
    dsimp only
    refine ⟨_,rfl,v,_,_,2,rfl,hv,by decide,_,rfl,?_⟩
    rw [(hn _).1]
    refine iteF ?_
    refine bc ?_
    dsimp only
    refine ⟨_,rfl,v,_,_,2,rfl,hv,by decide,_,rfl,?_⟩
    rw [(hn _).1]
    refine iteT ?_
    refine ⟨_,rfl,v,_,_,2,rfl,hv,by decide,_,rfl,?_⟩
    rw [(hn _).1]
    refine iteT ?_
    exact k H (Same.refl H)
end
open PySem L2 Mth EqD Tre Wd Su Dj
theorem nA:∀ {ts:List Pl},(∀t∈ts,Ok t)→Oks ts
 | [],_=>by unfold Oks;trivial
 |t::ts,h=>by unfold Oks;exact ⟨h t yn,nA fun u m=>h u (ym _ m)⟩
theorem xV {l d:Nat} {p:Pl} (h:Gp l d p) (hl:l≤1000):Ok p:=by
 have up:(10:Nat)^200≤2^8000:=by decide +kernel
 induction h with
 |non=>unfold Ok;trivial
 |bl=>unfold Ok;trivial
 |int d i h=>unfold Ok;exact yB h up
 |str d x h1 h2=>unfold Ok;omega
 |lst=>unfold Ok;trivial
 |dct=>unfold Ok;trivial
 |tup d ts h1 hn h2 ih=>unfold Ok;exact ⟨by omega,nA ih⟩
section
variable {P:Program} {w:World} {K:PySem.W.Frag} {mg:Str→Option Value} {base:Heap}
def spRt:Sp:=fun vs H Q _=>∃(v:V) (p:Pl),vs= [v]∧PlAt H v p∧Gs p∧∀H',Same H H'→Q (.bl true) H'
theorem scRt:az ["_law_thing","_law_found"] ["_law_thing"] (ag fc):=⟨rfl,rfl,rfl,by decide +kernel,rfl,by decide +kernel,by decide +kernel⟩
theorem xE {f f1 f2 f4 f5:Addr} {fd d1 d2 d4 d5:FuncData} (F:Fun K "_law_right" "_law_right" fc f fd) (B:Blt mg)
 (g1:FnOk P w K mg base CX0 43 f1 d1 ["thing"] n5) (k1:PySem.W.keepIn K (.ref f1)=true) (b1:Binds K d1 ["thing"] []) (m1:mg "is_sum"=some (.ref f1))
 (g2:FnOk P w K mg base CX0 66 f2 d2 ["thing"] (pW 21)) (k2:PySem.W.keepIn K (.ref f2)=true) (b2:Binds K d2 ["thing"] []) (m2:mg "is_wish"=some (.ref f2))
 (g4:FnOk P w K mg base CX0 43 f4 d4 ["_law_thing"] spLs) (k4:PySem.W.keepIn K (.ref f4)=true) (b4:Binds K d4 ["_law_thing"] []) (m4:mg "_law_is_sum"=some (.ref f4))
 (g5:FnOk P w K mg base CX0 65 f5 d5 ["_law_thing"] (spLw 21)) (k5:PySem.W.keepIn K (.ref f5)=true) (b5:Binds K d5 ["_law_thing"] []) (m5:mg "_law_is_wish"=some (.ref f5)):FnOk P w K mg base CX0 67 f fd ["_law_thing"] spRt:=by
 refine F.ok scRt (fun vs H Q E h=> ?_) (fun cdv A outer s H vs Q E hr h=> ?_)
 · obtain ⟨v,p,rfl,_⟩:=h
   rfl
 obtain ⟨v,p,rfl,hv,hp,k⟩:=h
 have hu1:=i5 hr
 have hu60:=yG (yW (show 60≤64 by decide) _) hr.units
 have okp:=xV hp.gp (by decide)
 have dep:=hp.gp.dep
 refine ⟨_,ae (aA (i:=1) scRt.nd rfl (Or.inl rfl) (aR (a9 (af g1 (hr.mono (by omega)) rfl m1 k1 b1 .nil aj (a9 (pv 0) aa)) (a9 (af g2 (hr.mono (by omega)) rfl m2 k2 b2 .nil aj (a9 (pv 0) aa)) aa))))
  (ae (aM (aE (kg hu1) (br (NC:= ["_law_one"]) (mp:= [none]) rfl (gg (pv 1)) (fun _ _ _ _ _=>aQ (i:=0) (show (["_law_one"]:List Str).Nodup by decide +kernel) rfl (Or.inl rfl)) (fun _ _ _ _ _=>eO (aS (aJ (ao (r:=rIsi K) aN rfl B.isi am (a9 (pv 0) (a9 (aT (v:= .ty "bool") rfl B.bo PyProof.Rows.boot_bool rfl) aa)))))) (fun _ _ _ _ _=>pv 0)) (aR aa) (ax _)) (ai (ak bR)) aw)
  (ai (ak (aY (qR hu60) (pv 1) (aR (a9 (af g4 (hr.mono (by omega)) rfl m4 k4 b4 .nil aj (a9 (pv 0) aa)) (a9 (af g5 (hr.mono (by omega)) rfl m5 k5 b5 .nil aj (a9 (pv 0) aa)) aa))) (ax _))))),?_⟩
 refine ⟨_,rfl,v,p,rfl,hv,okp,by omega,fun H1 s1=> ?_⟩
 refine ⟨_,rfl,v,p,rfl,hv.mono (Ke.of_same s1),okp,by omega,fun H2 s2=> ?_⟩
 refine ⟨by show 2≤sizeLine;decide,fun L nL=> ?_⟩
 have sL:=ah (o:= .lst [.bl (smB p), .bl (wsB 21 p)]) nL
 have hL3:=ad (H:=H2) (a:=L) (o:= .lst [.bl (smB p), .bl (wsB 21 p)])
 have s3:=s1.trans (s2.trans sL)
 generalize upd H2 L (.lst [.bl (smB p), .bl (wsB 21 p)])=H3 at sL hL3 s3 ⊢
 refine aV ?_
 try dsimp only
 refine vH ?_
 refine cN rfl ?_
 refine ⟨_,rfl,L,rfl,⟨_,SqL.of hL3⟩,fun D nD=> ?_⟩
 refine ic (xs:= [.bl (smB p), .bl (wsB 21 p)]) (fun i acc H'=>Same H3 H'∧H' D=some (.lst acc)∧acc= []) ⟨ah nD,ad,rfl⟩ (fun i acc H' q=>SqL.of (q.1 _ _ hL3)) ?_ ?_
 · rintro i x acc H4 hi ex ⟨s4,hD,rfl⟩
   obtain ⟨bb,rfl⟩:∃bb,x=V.bl bb:=by
    have m:=yw ex
    simp only [yk,yq,or_false] at m
    rcases m with rfl|rfl<;>exact ⟨_,rfl⟩
   refine ⟨_,rfl, .bl bb, .ty "bool",_,true,rfl, .of (.bl bb), .inl ⟨rfl,ip K⟩,_,rfl,?_⟩
   exact iteF (CompS.mk hi ⟨s4,hD,rfl⟩)
 · rintro acc H4 ⟨s4,hD,rfl⟩
   refine ⟨by show 0≤sizeLine;decide,fun M nM=> ?_⟩
   have sM:=ah (o:= .lst []) nM
   refine ⟨D,M,[],rfl,rfl,sM _ _ hD,ad,_,rfl,?_⟩
   refine iteF ?_
   have s5:=s3.trans (s4.trans sM)
   have hL5:=sM _ _ (s4 _ _ hL3)
   generalize upd H4 M (.lst [])=H5 at s5 hL5 ⊢
   refine ⟨_,rfl,_,rfl,v,p,rfl,hv.mono (Ke.of_same s5),hp,fun H6 s6=> ?_⟩
   refine ⟨_,rfl,v,p,rfl,hv.mono (Ke.of_same (s5.trans s6)),hp,by omega,fun H7 s7=> ?_⟩
   refine ⟨by show 2≤sizeLine;decide,fun N nN=> ?_⟩
   have sN:=ah (o:= .lst [.bl (smB p), .bl (wsB 21 p)]) nN
   have s9:=s6.trans (s7.trans sN)
   refine ⟨L,N,_,_,[.bl (smB p), .bl (wsB 21 p)],[.bl (smB p), .bl (wsB 21 p)],rfl,rfl,s9 _ _ hL5,ad,?_,?_, .inl (by simp [Trs.pure,Tr.pure]),(by simp [Trs.depth,Tr.depth]),?_⟩
   · exact .cons (by unfold TrAt;rfl) (.cons (by unfold TrAt;rfl) .nil)
   · exact .cons (by unfold TrAt;rfl) (.cons (by unfold TrAt;rfl) .nil)
   · rw [eqTs_refl]
     exact k _ (s5.trans s9)
end
end K05
namespace L2
open PySem PySem.Spec PyProof.Rows
section
variable {X:Cx}
end
open PySem PySem.Spec PyProof.Rows
theorem rL {α β:Type} {f:α→Option β} {g:α→β}:∀ {l:List α},(∀x∈l,f x=some (g x))→l.filterMap f=l.map g
 | [],_=>rfl
 |x::l,h=>by
  rw [zo,h x yn,yD,rL fun y m=>h y (ym _ m)]
theorem oW (its:List Value):((List.range its.length).map fun k=>its.length - 1 - k).filterMap (fun k=>its.toArray[k]?)=its.reverse:=by
 refine zx fun j=> ?_
 have e:((List.range its.length).map fun k=>its.length - 1 - k).filterMap (fun k=>its.toArray[k]?)=(List.range its.length).map fun k=>its.getD (its.length - 1 - k) Value.none:=by
  rw [List.filterMap_map]
  refine rL fun k m=> ?_
  have:=yY.mp m
  show its.toArray[its.length - 1 - k]?=some (its.getD (its.length - 1 - k) Value.none)
  rw [List.getElem?_toArray,yS,yj (by omega)]
  rfl
 rw [e,yL]
 by_cases hj:j < its.length
 · rw [yj (by rw [ze];exact hj),List.getElem_range,List.getElem?_reverse hj,yj (by omega)]
   show some (its.getD (its.length - 1 - j) Value.none)=_
   rw [yS,yj (by omega)]
   rfl
 · rw [yQ (by rw [ze];omega),yQ (by rw [List.length_reverse];omega)]
   rfl
section
variable {X:Cx} {e est:Expr} {te ts:TE} {pos p2:Pos}
end
open PySem PySem.Spec PyProof.Rows
theorem kZ {α β:Type} {f g:α→Option β}:∀ {l:List α},(∀x∈l,f x=g x)→l.filterMap f=l.filterMap g
 | [],_=>rfl
 |a::l,h=>by
  rw [zo,zo,h a yn,kZ fun x m=>h x (ym _ m)]
section
variable {prog:Program} {w:World} {A:Around} {E:Value→Shared→Prop} {s:Shared}
theorem eN {sl:Addr} {n:Nat} {u:Tok} {Q:Int×Int×Nat→Shared→Prop} (hs:s.heap.IsSliceOf sl .none .none (.int (-1) u)) (h:Q ((n:Int) - 1,-1,n) s):
 wpAny (model prog w) A (Builtin.Slice.sliceApplied (.ref sl) (pure (n:Int))) Q E s:=by
 obtain ⟨os,hos,hcs,hds⟩:=id hs
 unfold Builtin.Slice.sliceApplied Builtin.Slice.sliceFields
 refine wpAny_bind (wpAny_bind (wpAny_field hos hds (x:= .none) rfl (wpAny_bind (wpAny_field hos hds (x:= .none) rfl (wpAny_bind (wpAny_field hos hds (x:= .int (-1) u) rfl (wpAny_pure ?_)))))))
 refine wpAny_bind (slicePart_int ?_)
 show wpAny _ _ (if ((-1:Int)==0)=true then _ else _) _ _ s
 rw [if_neg (by decide)]
 refine wpAny_bind (slicePart_none (wpAny_bind (slicePart_none (wpAny_bind (wpAny_pure ?_)))))
 show wpAny _ _ (match Builtin.Slice.sliceAdjust none none (-1) (n:Int) with|(lo,hi)=>pure (lo,(-1:Int),Builtin.Slice.slicePlaces lo hi (-1))) _ _ s
 have e:Builtin.Slice.sliceAdjust none none (-1) (n:Int)=((n:Int) - 1,-1):=by simp [Builtin.Slice.sliceAdjust]
 rw [e]
 have e2:Builtin.Slice.slicePlaces ((n:Int) - 1) (-1) (-1)=n:=by
  unfold Builtin.Slice.slicePlaces
  simp only [show¬((-1:Int) > 0) by decide,if_false,Int.neg_neg,Int.ediv_one]
  split<;>omega
 show wpAny _ _ (pure ((n:Int) - 1,(-1:Int),Builtin.Slice.slicePlaces ((n:Int) - 1) (-1) (-1))) _ _ s
 rw [e2]
 exact wpAny_pure h
theorem lT (xs:List Value):((List.range xs.toArray.size).filterMap fun (k:Nat)=>xs.toArray[(((xs.toArray.size:Nat):Int) - 1+(k:Int)*(-1)).toNat]?).toArray=xs.reverse.toArray:=by
 have e:=oW xs
 rw [List.filterMap_map] at e
 rw [←e,yp]
 congr 1
 refine kZ fun k hk=> ?_
 have:=yY.mp hk
 show xs.toArray[((xs.length:Int) - 1+(k:Int)*(-1)).toNat]?=xs.toArray[xs.length - 1 - k]?
 congr 1
 omega
theorem eF {t sl:Addr} {xs:List Value} {u:Tok} {Q:Value→Shared→Prop} (ht:IsTup s.heap t xs.toArray) (hs:s.heap.IsSliceOf sl .none .none (.int (-1) u))
 (h:Q (.ref s.heap.objs.size) {s with heap:=s.heap.push {cls:= .type "tuple",data:= .seq xs.reverse.toArray}})
 (hsz:xs.length≤sizeLine):wpAny (model prog w) A (getItem (.ref t) (.ref sl)) Q E s:=by
 have hdrop:sizeOk (.seq xs.reverse.toArray):=by
  show xs.reverse.toArray.size≤sizeLine
  rw [yp,List.length_reverse]
  omega
 obtain ⟨os,hos,hcs,hds⟩:=id hs
 have hTs:s.TypeIs (.ref sl) "slice":=⟨os,hos,hcs⟩
 unfold getItem
 try with_reducible refine wpAny_holding ?_
 first|refine wpAny_bind (wpAny_pure ?_)|skip
 refine wpAny_bind (wpAny_sequenceKey ht.typeIs (by decide) ?_)
 refine wpAny_bind (wpAny_callSpecial?_slot (name:=Str.ofString "__getitem__") ht.typeIs slot_tuple_getitem
  (wpAny_call_entry slot_tuple_getitem ht.typeIs entry_tuple_getitem ?_ (args_tuple_getitem _ _)))
 show wpAny _ _ (Builtin.Tuple.tupleItemsOf (.ref t) >>=_) _ _ s
 refine wpAny_bind (tupleItemsOf_ ht ?_)
 refine wpAny_bind (wpAny_typeOf hTs ?_)
 rw [if_pos (by decide)]
 refine wpAny_bind (eN hs ?_)
 have hno:¬(((xs.toArray.size:Int) - 1==0&& (-1:Int)==1&&xs.toArray.size==xs.toArray.size)=true):=by simp
 show wpAny _ _ (if ((xs.toArray.size:Int) - 1==0&& (-1:Int)==1&&xs.toArray.size==xs.toArray.size)=true then _ else _) _ _ s
 rw [if_neg hno]
 rw [lT]
 first
  |exact wpAny_bind (m:=Builtin.Tuple.tupleExact _) (wpAny_newObj_type (wpAny_pure ⟨_,rfl,wpAny_pure h⟩) hdrop)
  |exact wpAny_bind (m:=Builtin.Tuple.tupleExact _) (wpAny_newObj_type (wpAny_bind (wpAny_pure (wpAny_pure ⟨_,rfl,wpAny_pure h⟩))) hdrop)
  |exact wpAny_bind (wpAny_bind (m:=Builtin.Tuple.tupleExact _) (wpAny_newObj_type (wpAny_pure (wpAny_pure ⟨_,rfl,wpAny_pure h⟩)) hdrop))
end
section
variable {X:Cx} {e est:Expr} {te ts:TE} {pos p2:Pos}
def vD (K:PySem.W.Frag) (te ts:TE):TE:=fun σ H Q=>te σ H fun x H1=>ts σ H1 fun y H2=>∃a xs,x= .ref a∧y= .int (-1)∧SqT K H2 a xs∧∀p,H2 p=none→Q (.ref p) (upd H2 p (.tup xs.reverse))
theorem qP (he:PE X e te) (hs:PE X est ts):PE X (.Subscript e (.Slice none none (some est) p2) pos) (vD X.K te ts):=by
 intro pins s σ H Q I h
 refine Subscript_ (thn (he pins s σ H _ I h) fun v s1 ⟨x,H1,I1,r1,q1⟩=> ?_)
 refine wpAny_Slice ?_
 rw [evalPart_none]
 refine wpAny_pure (wpAny_pure ?_)
 rw [evalPart_some]
 refine thn (hs pins s1 σ H1 _ I1 q1) fun w2 s2 ⟨y,H2,I2,r2,q2⟩=> ?_
 obtain ⟨a,xs,rfl,rfl,hx,q⟩:=q2
 obtain ⟨tk,rfl⟩:=r2
 cases r1
 have I4:Inv X pins σ H2 {s2 with heap:=s2.heap.push {cls:= .type "slice",data:= .fields #[.none, .none, .int (-1) tk]}}:=I2.kept (t':=s2.toks) fun b ob q=>Heap.get?_push_of_some _ q
 obtain ⟨its,r,ht,hz⟩:=I4.tuple hx
 have hlen:=r.length
 show wpAny (model X.prog X.w) X.A (subscriptTail e (.Slice none none (some est) p2) (.ref a) (.ref s2.heap.objs.size)) (EP X pins σ Q) X.xe {s2 with heap:=s2.heap.push {cls:= .type "slice",data:= .fields #[.none, .none, .int (-1) tk]}}
 refine tail_any (ops:= [.ref a, .ref s2.heap.objs.size]) ht.typeIs slot_tuple_getitem.lookup ?_ (by with_unfolding_all rfl)
 refine eF ht (Heap.IsSliceOf.new ..) ?_ (by omega)
 refine ⟨.ref _,_,I4.laid (t':=s2.toks) (o:= .tup xs.reverse) (fun b ob q=>Heap.get?_push_of_some _ q) (yl _) ?_,rfl,q _ (I4.hok.fresh (yl _))⟩
 exact ⟨by rw [List.length_reverse];exact hz,_,r.reverse,_,Heap.get?_push_size _ rfl,rfl,_,rfl⟩
end
end L2
namespace K05
open PySem L2 Mth EqD Tre Wd Su Dj
def Lg (H:Hp) (vs:List V):Prop:=∀v∈vs,∃p,PlAt H v p∧Gs p
theorem Lg.mono {H H':Hp} {vs:List V} (h:Lg H vs) (k:Ke H H'):Lg H' vs:=fun v m=>by
 obtain ⟨p,h1,h2⟩:=h v m
 exact ⟨p,h1.mono k,h2⟩
theorem Lg.nil {H:Hp}:Lg H []:=fun v m=>by cases m
theorem Lg.cons {H:Hp} {v:V} {p:Pl} {vs:List V} (h:PlAt H v p) (g:Gs p) (hs:Lg H vs):Lg H (v::vs):=fun u m=>by
 rcases yk.mp m with rfl|m
 · exact ⟨p,h,g⟩
 · exact hs u m
theorem Lg.app {H:Hp} {vs ws:List V} (h:Lg H vs) (hs:Lg H ws):Lg H (vs++ws):=fun u m=>by
 rcases yx.mp m with m|m
 · exact h u m
 · exact hs u m
theorem Gk.gs {d:Nat} {p:Pl} (h:Gk d p) (hd:d≤20):Gs p:=⟨h.1.mono (by decide) hd,Kw.mono (by decide) p h.2⟩
theorem fw {l d:Nat} {ts:List Pl} (h4:ts.length≤4) (hl:l≤6) (hd:d≤19) (h:∀t∈ts,Gp l d t∧Kw 7 t) (hk:∀t∈ts,¬Kx t):Gs (.tup ts):=
 ⟨.mono (l:=6) (d:=20) (.tup 19 ts (by omega) (fun z=>by omega) fun t m=>(h t m).1.mono hl hd) (yl _) (yl _),fu (fun ⟨t,m,e⟩=>absurd e (hk t m)) fun t m=>(h t m).2⟩
theorem PlsAt.rev {H:Hp}:∀ {vs:List V} {ts:List Pl},PlsAt H vs ts→PlsAt H vs.reverse ts.reverse
 |vs,[],h=>by
  unfold PlsAt at h
  subst h
  exact .nil
 |vs,t::ts,h=>by
  obtain ⟨v,r,rfl,h1,h2⟩:=h.inv
  rw [List.reverse_cons,List.reverse_cons]
  exact PlsAt.app (.cons h1 .nil) (PlsAt.rev h2)
theorem ph {vs:List V} {n:Nat}:cutV vs none (some (n:Int))=vs.take n:=by
 unfold cutV
 rw [HT.sIx_nat,HT.sIx_none]
 simp [List.take_eq_take_iff]
noncomputable def zzT:Tr:= .tup [.tup [.str (Str.ofString "name"), .str (Str.ofString "zz")], .tup [.int 0, .int 1]]
theorem gm {i:Int} (h:decide (i.natAbs≤100)=true) (l d:Nat):Gp l d (.int i):= .int d i (yG (of_decide_eq_true h) (by decide +kernel))
theorem zz_gk:Gk 3 (toPl zzT):=by
 refine c9 (d:=2) (ck (d:=1) (by simp) fun t m=> ?_) (by decide) (by decide)
 simp only [yk,yq,or_false] at m
 rcases m with rfl|rfl
 · refine ck (d:=0) (by simp) fun t m=> ?_
   simp only [yk,yq,or_false] at m
   rcases m with rfl|rfl
   · exact i6 (by decide +kernel) (by decide +kernel) _
   · exact i6 (by decide +kernel) (by decide +kernel) _
 · refine ck (d:=0) (by simp) fun t m=> ?_
   simp only [yk,yq,or_false] at m
   rcases m with rfl|rfl
   · rw [toPl]
     exact gm (by decide) _ _
   · rw [toPl]
     exact gm (by decide) _ _
theorem vg {x y:Int} (h1:decide (x.natAbs≤100)=true) (h2:decide (y.natAbs≤100)=true):Gk 3 (toPl (.tup [.int x, .int y])):=by
 refine c9 (d:=1) (ck (d:=0) (by simp) fun t m=> ?_) (by decide) (by decide)
 simp only [yk,yq,or_false] at m
 rcases m with rfl|rfl
 · rw [toPl]
   exact gm h1 _ _
 · rw [toPl]
   exact gm h2 _ _
section
variable {P:Program} {w:World} {K:PySem.W.Frag} {mg:Str→Option Value} {base:Heap}
def n9 (K:PySem.W.Frag):Sp:=fun vs H Q _=>∃(a:Addr) (ns:List Int),vs= [.ref a]∧SqL K H a (ns.map V.int)∧ns.length≤63∧∀H',Q (.bl true) H'
theorem scL:az ["_law_script","_law_feed_here","_law_names_here","_law_one","_law_wish_here","_law_bent_here","_law_some","_law_thing"] ["_law_script"] (ag sLaw):=⟨rfl,rfl,rfl,by decide +kernel,rfl,by decide +kernel,by decide +kernel⟩
theorem wa {f fFe fNm fPa fSu fWi fTe fBe fRt:Addr} {fd dFe dNm dPa dSu dWi dTe dBe dRt:FuncData} (F:Fun K "law" "law" sLaw f fd) (B:Blt mg)
 (gFe:FnOk P w K mg base CX0 1 fFe dFe ["_law_script"] (qa K)) (kFe:PySem.W.keepIn K (.ref fFe)=true) (bFe:Binds K dFe ["_law_script"] []) (mFe:mg "_law_feed"=some (.ref fFe))
 (gNm:FnOk P w K mg base CX0 2 fNm dNm ["_law_feed_here"] n8) (kNm:PySem.W.keepIn K (.ref fNm)=true) (bNm:Binds K dNm ["_law_feed_here"] []) (mNm:mg "_law_names"=some (.ref fNm))
 (gPa:FnOk P w K mg base CX0 5 fPa dPa ["_law_feed_here","_law_names_here","_law_deep","_law_most"] fY) (kPa:PySem.W.keepIn K (.ref fPa)=true) (bPa:Binds K dPa ["_law_feed_here","_law_names_here","_law_deep","_law_most"] []) (mPa:mg "_law_pairs"=some (.ref fPa))
 (gSu:FnOk P w K mg base CX0 3 fSu dSu ["_law_pairs_here"] jb) (kSu:PySem.W.keepIn K (.ref fSu)=true) (bSu:Binds K dSu ["_law_pairs_here"] []) (mSu:mg "_law_sum"=some (.ref fSu))
 (gWi:FnOk P w K mg base CX0 12 fWi dWi ["_law_feed_here","_law_names_here","_law_deep"] (lN 3)) (kWi:PySem.W.keepIn K (.ref fWi)=true) (bWi:Binds K dWi ["_law_feed_here","_law_names_here","_law_deep"] []) (mWi:mg "_law_wish"=some (.ref fWi))
 (gTe:FnOk P w K mg base CX0 5 fTe dTe ["_law_feed_here","_law_names_here","_law_deep"] (eY 3)) (kTe:PySem.W.keepIn K (.ref fTe)=true) (bTe:Binds K dTe ["_law_feed_here","_law_names_here","_law_deep"] []) (mTe:mg "_law_term"=some (.ref fTe))
 (gB3:FnOk P w K mg base CX0 19 fBe dBe ["_law_feed_here","_law_thing"] (gK 3 16)) (gB4:FnOk P w K mg base CX0 21 fBe dBe ["_law_feed_here","_law_thing"] (gK 4 18)) (kBe:PySem.W.keepIn K (.ref fBe)=true) (bBe:Binds K dBe ["_law_feed_here","_law_thing"] []) (mBe:mg "_law_bent"=some (.ref fBe))
 (gRt:FnOk P w K mg base CX0 67 fRt dRt ["_law_thing"] spRt) (kRt:PySem.W.keepIn K (.ref fRt)=true) (bRt:Binds K dRt ["_law_thing"] []) (mRt:mg "_law_right"=some (.ref fRt)):
 FnOk P w K mg base CX0 68 f fd ["_law_script"] (n9 K):=by
 refine F.ok scL (fun vs H Q E h=> ?_) (fun cdv A outer s H vs Q E hr h=> ?_)
 · obtain ⟨a,ns,rfl,_⟩:=h
   rfl
 obtain ⟨a,ns,rfl,hS,hl,k⟩:=h
 have hr1:Room 1 _:=hr.mono (by decide)
 have hr2:Room 2 _:=hr.mono (by decide)
 have hr3:Room 3 _:=hr.mono (by decide)
 have hr5:Room 5 _:=hr.mono (by decide)
 have hr12:Room 12 _:=hr.mono (by decide)
 have hr19:Room 19 _:=hr.mono (by decide)
 have hr21:Room 21 _:=hr.mono (by decide)
 refine ⟨_,ae (aA (i:=1) scL.nd rfl (Or.inl rfl) (af gFe hr1 rfl mFe kFe bFe .nil aj (a9 (pv 0) aa)))
  (ae (aA (i:=2) scL.nd rfl (Or.inl rfl) (af gNm hr2 rfl mNm kNm bNm .nil aj (a9 (pv 1) aa)))
  (ae (aA (i:=3) scL.nd rfl (Or.inl rfl) (af gSu hr3 rfl mSu kSu bSu .nil aj (a9 (af gPa hr5 rfl mPa kPa bPa .nil aj (a9 (pv 1) (a9 (pv 2) (a9 ac (a9 ac aa))))) aa)))
  (ae (aA (i:=4) scL.nd rfl (Or.inl rfl) (af gWi hr12 rfl mWi kWi bWi .nil aj (a9 (pv 1) (a9 (pv 2) (a9 ac aa)))))
  (ae (aA (i:=5) scL.nd rfl (Or.inl rfl) (af gB3 hr19 rfl mBe kBe bBe .nil aj (a9 (pv 1) (a9 (pv 3) aa))))
  (ae (aA (i:=6) scL.nd rfl (Or.inl rfl) (aR (a9 (pv 3) (a9 (qP (pv 3) (nn iZ ac)) (a9 (aB eP (pv 3) (b9 SlW.sl_A (pv 3) bx (bf ac))) (a9 (aB eP (pv 3) (lV 9 rfl)) (a9 (bJ de rfl B.li PyProof.Rows.boot_list (a9 (pv 3) aa)) (a9 (pv 5) (a9 (aX (a9 aG (a9 (pv 5) (a9 (lV 9 rfl) aa)))) aa)))))))))
  (ae (aA (i:=6) scL.nd rfl (Or.inl rfl) (aB lX (pv 6) (aR (a9 (pv 4) (a9 (af gB3 hr19 rfl mBe kBe bBe .nil aj (a9 (pv 1) (a9 (pv 4) aa))) (a9 (af gB4 hr21 rfl mBe kBe bBe .nil aj (a9 (pv 1) (a9 (af gB3 hr19 rfl mBe kBe bBe .nil aj (a9 (pv 1) (a9 (pv 4) aa))) aa))) (a9 (aX (a9 aG (a9 (pv 4) aa))) (a9 (aX (a9 aG (a9 (pv 4) aa))) aa))))))))
  (ae (aA (i:=6) scL.nd rfl (Or.inl rfl) (aB lX (pv 6) (aR (a9 (aX (a9 aG (a9 (aX (a9 (pv 4) (a9 (af gB3 hr19 rfl mBe kBe bBe .nil aj (a9 (pv 1) (a9 (pv 4) aa))) aa))) aa))) (a9 (aX (a9 aG (a9 (af gTe hr5 rfl mTe kTe bTe .nil aj (a9 (pv 1) (a9 (pv 2) (a9 ac aa)))) (a9 (aX (a9 aG (a9 (aq aO (pv 2) ac fun _ _=>rfl) aa))) aa)))) aa)))))
  (ae (fj PassesOwn.never rfl (gg (pv 6)) (aQ (i:=7) scL.nd rfl (Or.inl rfl))
   (ai (aM (aS (aJ (af gRt hr rfl mRt kRt bRt .nil aj (a9 (pv 7) aa)))) (ai (ak bR)) aw)))
  (ai (ak bR)))))))))),?_⟩
 have hL:(20000:Nat)≤sizeLine:=by decide +kernel
 refine ⟨_,rfl,a,ns,rfl,hS,hl,fun fe c H1 nf nc s1 hF1=> ?_⟩
 refine aV ?_
 try dsimp only
 refine ⟨_,rfl,fe,c,rfl,hF1,fun nl H2 hF2 b2 nnl hN2=> ?_⟩
 obtain ⟨n1,n2⟩:=hF1.ne nnl
 refine aV ?_
 try dsimp only
 refine ⟨_,rfl,_,rfl,fe,c,nl,2,3,rfl,hF2,hN2,n1,n2,by decide,by decide,fun l ps H3 nl3 hF3 b3 hps hlen hDq=> ?_⟩
 refine ⟨l,ps,3,30,rfl,hps,hlen,by decide,by decide,fun p m=>(hDq p m).gq,fun v H4 us s4 hv hcan hul hgq=> ?_⟩
 have gk:=rJ (by omega) hcan hDq fun u m=>(hgq u m).gf.mono (by decide)
 have hpv:PlAt H4 v (toPl (.tup (us.map prT))):=jZ hv
 have ul:us.length≤3:=by omega
 have nko:∀t∈toPls (us.map prT),¬Kx t:=fun t m=>by
  rw [cM] at m
  obtain ⟨x,mx,rfl⟩:=yV.mp m
  obtain ⟨u,mu,rfl⟩:=yV.mp mx
  exact c5
 have ol:(toPls (us.map prT)).length≤3:=by rw [cM,yo,yo];exact ul
 have hF4:=hF3.same s4
 have b14:=(b2.trans b3).trans (But.of_same (f:=fe) (c:=c) s4)
 have hN4:=hN2.but n1 n2 (b3.trans (But.of_same s4))
 rw [toPl] at gk hpv
 generalize toPls (us.map prT)=os at gk hpv nko ol
 clear hps hlen hDq hcan hul hgq hv ul
 refine aV ?_
 try dsimp only
 refine ⟨_,rfl,_,rfl,fe,c,nl,2,rfl,hF4,hN4,n1,n2,by decide,fun wv wt H5 hF5 b5 hw gw ht=> ?_⟩
 obtain ⟨wts,rfl⟩:=ht
 have hpw:PlAt H5 wv (toPl (.tup wts)):=jZ hw
 rw [toPl] at hpw gw
 generalize toPls wts=wps at hpw gw
 have hp5:=hpv.mono (But.ke b5 hF4 hF5)
 have hN5:=hN4.but n1 n2 b5
 clear hw hpv
 refine aV ?_
 try dsimp only
 refine ⟨_,rfl,_,rfl,fe,c,v, .tup os,7,rfl,hF5,hp5,gk.1,by decide,fun bv bp H6 hF6 b6 hbv gb kqb=> ?_⟩
 have k6:=But.ke b6 hF5 hF6
 have hp6:=hp5.mono k6
 have hpw6:=hpw.mono k6
 have hN6:=hN5.but n1 n2 b6
 have gsb:Gs bp:=⟨gb.mono (by decide) (by decide),Kw.mono (by decide) bp (kqb.kw 5 gk.2)⟩
 clear hp5 hpw hN5 hN4 hF4 hF5 b5
 refine aV ?_
 try dsimp only
 have hp':=hp6
 unfold PlAt at hp'
 obtain ⟨ro,ovs,rfl,go,hos⟩:=hp'
 have ovl:=hos.len
 have oi:∀t∈os,Gp 3 6 t∧Kw 7 t:=fun t m=>by
  obtain ⟨d',e,_,h2⟩:=gk.1.items
  exact ⟨(h2 t m).mono (yl _) (by omega),Kw.mono (by decide) t ((cR gk.2).2 t m)⟩
 refine ⟨_,rfl,_,rfl,1,rfl,ro,ovs,rfl,rfl,SqT.of go,fun p1 np1=> ?_⟩
 have s7:=ah (o:= .tup ovs.reverse) np1
 have g7:=ad (H:=H6) (a:=p1) (o:= .tup ovs.reverse)
 generalize upd H6 p1 (.tup ovs.reverse)=H7 at s7 g7 ⊢
 refine ⟨_,rfl,_,rfl,_,rfl,ro,ovs,rfl,s7 _ _ go,fun q2 H8 s8 e8=> ?_⟩
 have e1:cutV ovs none (some 1)=ovs.take 1:=ph (n:=1)
 obtain ⟨us1,hu1',hul1,hum1⟩:=hos.cut none (some 1)
 have l1:=hu1'.len
 rw [e1] at e8 hu1' l1
 have l1':us1.length≤1:=by rw [←l1,yN];omega
 refine ⟨ro,q2,_,_,rfl,rfl,(s7.trans s8) _ _ go,e8,by rw [yN];omega,fun r3 H9 s9 e9=> ?_⟩
 refine ⟨_,rfl,fun lv HA sA hlv=> ?_⟩
 have hlv':TrAt HA lv (.tup [zzT]):=hlv
 obtain ⟨ql,lvs,rfl,gl,hlvs⟩:=at_t hlv'
 have ll:=hlvs.len
 have s6A:=s7.trans (s8.trans (s9.trans sA))
 refine ⟨ro,ql,_,_,rfl,rfl,s6A _ _ go,gl,by rw [ll];show ovs.length+1≤sizeLine;omega,fun r4 HB sB eB=> ?_⟩
 refine ⟨_,rfl,ro,ovs,rfl, .inr (SqT.of ((s6A.trans sB) _ _ go)),fun q5 nq5=> ?_⟩
 have sC:=ah (o:= .lst ovs) nq5
 have gC:=ad (H:=HB) (a:=q5) (o:= .lst ovs)
 generalize upd HB q5 (.lst ovs)=HC at sC gC ⊢
 refine ⟨_,rfl,_,rfl,fun mv HD sD hmv=> ?_⟩
 have hmv':TrAt HD mv (.tup [.int 1, .int 2]):=hmv
 refine ⟨by show 3≤sizeLine;decide,fun p7 np7=> ?_⟩
 have sE:=ah (o:= .tup [.str (Str.ofString "most"),bv,mv]) np7
 have gE:=ad (H:=HD) (a:=p7) (o:= .tup [.str (Str.ofString "most"),bv,mv])
 generalize upd HD p7 (.tup [.str (Str.ofString "most"),bv,mv])=HE at sE gE ⊢
 refine ⟨by show 7≤sizeLine;decide,fun L nL=> ?_⟩
 have sF:=ah (o:= .lst [.ref ro, .ref p1, .ref r3, .ref r4, .ref q5,bv, .ref p7]) nL
 have gF:=ad (H:=HE) (a:=L) (o:= .lst [.ref ro, .ref p1, .ref r3, .ref r4, .ref q5,bv, .ref p7])
 have sEF:=sE.trans sF
 have sCF:=sC.trans (sD.trans sEF)
 have sBF:=sB.trans sCF
 have s6F:=s6A.trans sBF
 have kk:Ke H6 _:=Ke.of_same s6F
 have lgF:Lg _ [.ref ro, .ref p1, .ref r3, .ref r4, .ref q5,bv, .ref p7]:=
  .cons (hp6.mono kk) (gk.gs (by decide))
  (.cons (cn ((s8.trans (s9.trans (sA.trans sBF))) _ _ g7) (PlsAt.rev (hos.mono kk))) (fw (l:=3) (d:=6) (by rw [List.length_reverse];omega) (by decide) (by decide) (fun t m=>oi t (List.mem_reverse.mp m)) fun t m=>nko t (List.mem_reverse.mp m))
  (.cons (cn ((sA.trans sBF) _ _ e9) (PlsAt.app (hu1'.mono kk) (hos.mono kk))) (fw (l:=3) (d:=6) (by rw [yt];omega) (by decide) (by decide) (fun t m=>(yx.mp m).elim (oi t) fun m=>oi t (hum1 t m)) fun t m=>(yx.mp m).elim (nko t) fun m=>nko t (hum1 t m))
  (.cons (cn (sCF _ _ eB) (PlsAt.app (pls_of (hlvs.mono (Kd.of_same sBF))) (hos.mono kk))) (fw (l:=3) (d:=6) (by rw [yt];show _+1≤4;omega) (by decide) (by decide) (fun t m=>(yx.mp m).elim (oi t) fun m=>by
   rw [toPls,toPls] at m
   rw [yv.mp m]
   exact ⟨zz_gk.1.mono (by decide) (by decide),Kw.mono (by decide) _ zz_gk.2⟩) fun t m=>(yx.mp m).elim (nko t) fun m=>by
   rw [toPls,toPls] at m
   rw [yv.mp m]
   exact c5)
  (.cons (qE ((sD.trans sEF) _ _ gC)) ⟨.lst _,eR _ (by rw [dd]<;>simp)⟩
  (.cons (hbv.mono kk) gsb
  (.cons (cn (sF _ _ gE) (.cons cU (.cons (hbv.mono kk) (.cons (jZ (hmv'.mono (Kd.of_same sEF))) .nil)))) (fw (l:=4) (d:=9) (by simp) (by decide) (by decide) (fun t m=>by
   simp only [yk,yq,or_false] at m
   rcases m with rfl|rfl|rfl
   · exact ⟨bu (by decide +kernel) (by decide +kernel) _ _,by rw [Kw]<;>simp⟩
   · exact ⟨gb,gsb.kw⟩
   · exact ⟨(vg (by decide) (by decide)).1.mono (by decide) (by decide),Kw.mono (by decide) _ (vg (by decide) (by decide)).2⟩) fun t m=>by
   simp only [yk,yq,or_false] at m
   rcases m with rfl|rfl|rfl
   · exact kxs (by decide +kernel) (by decide +kernel)
   · exact kqb.kx
   · exact c5) .nil))))))
 have hFF:=hF6.same s6F
 have hNF:=hN6.but n1 n2 (But.of_same s6F)
 have hwF:=hpw6.mono kk
 have nLf:L≠fe∧L≠c:=by
  have hFE:=hF6.same (s6A.trans (sB.trans (sC.trans (sD.trans sE))))
  exact hFE.ne nL
 clear s6F sBF sCF sEF sF kk
 generalize upd HE L (.lst [.ref ro, .ref p1, .ref r3, .ref r4, .ref q5,bv, .ref p7])=HF at gF lgF hFF hNF hwF ⊢
 have l7: [V.ref ro, .ref p1, .ref r3, .ref r4, .ref q5,bv, .ref p7].length=7:=rfl
 generalize [V.ref ro, .ref p1, .ref r3, .ref r4, .ref q5,bv, .ref p7]=w1 at gF lgF l7
 clear s7 s8 s9 sA sB sC sD sE s6A g7 e8 e9 eB gC gE gl hlvs hlv hlv' hmv hmv' hu1' hos go hp6 hpw6 hF6 hN6 hbv oi hum1
 refine aV ?_
 try dsimp only
 refine ⟨_,rfl,_,rfl,_,rfl,_,rfl,fe,c,wv, .tup wps,12,rfl,hFF,hwF,gw.1,by decide,fun b1v b1p H1 hF1 bb1 hb1 gb1 kq1=> ?_⟩
 have k1:=But.ke bb1 hFF hF1
 refine ⟨_,rfl,_,rfl,_,rfl,fe,c,wv, .tup wps,12,rfl,hF1,hwF.mono k1,gw.1,by decide,fun b2v b2p H2 hF2 bb2 hb2 gb2 kq2=> ?_⟩
 have k2:=But.ke bb2 hF1 hF2
 refine ⟨fe,c,b2v,b2p,14,rfl,hF2,hb2,gb2,by decide,fun b3v b3p H3 hF3 bb3 hb3 gb3 kq3=> ?_⟩
 have k3:=But.ke bb3 hF2 hF3
 refine ⟨_,rfl,by show 2≤sizeLine;decide,fun p4 np4=> ?_⟩
 have s4:=ah (o:= .tup [.str (Str.ofString "not"),wv]) np4
 have g4:=ad (H:=H3) (a:=p4) (o:= .tup [.str (Str.ofString "not"),wv])
 generalize upd H3 p4 (.tup [.str (Str.ofString "not"),wv])=H4 at s4 g4 ⊢
 refine ⟨_,rfl,by show 2≤sizeLine;decide,fun p5 np5=> ?_⟩
 have s5:=ah (o:= .tup [.str (Str.ofString "both"),wv]) np5
 have g5:=ad (H:=H4) (a:=p5) (o:= .tup [.str (Str.ofString "both"),wv])
 generalize upd H4 p5 (.tup [.str (Str.ofString "both"),wv])=H5 at s5 g5 ⊢
 refine ⟨by show 5≤sizeLine;decide,fun M nM=> ?_⟩
 have s6:=ah (o:= .lst [wv,b1v,b3v, .ref p4, .ref p5]) nM
 have g6:=ad (H:=H5) (a:=M) (o:= .lst [wv,b1v,b3v, .ref p4, .ref p5])
 have s46:=s4.trans (s5.trans s6)
 have k36:=k3.trans (Ke.of_same s46)
 have k26:=k2.trans k36
 have kF6:=k1.trans k26
 have two:∀(kw:Str),decide (kw.length≤300)=true→kw.cps.toList.all (fun c=>decide (c < 128))=true→¬Kx (.str kw)→Gs (.tup [.str kw, .tup wps]):=fun kw h1 h2 h3=>fw (l:=3) (d:=12) (by simp) (by decide) (by decide) (fun t m=>by
  simp only [yk,yq,or_false] at m
  rcases m with rfl|rfl
  · exact ⟨bu h1 h2 _ _,by rw [Kw]<;>simp⟩
  · exact ⟨gw.1,Kw.mono (by decide) _ gw.2⟩) fun t m=>by
  simp only [yk,yq,or_false] at m
  rcases m with rfl|rfl
  · exact h3
  · exact dm
 have lg6:Lg _ [wv,b1v,b3v, .ref p4, .ref p5]:=
  .cons (hwF.mono kF6) (gw.gs (by decide))
  (.cons (hb1.mono k26) ⟨gb1.mono (by decide) (by decide),Kw.mono (by decide) _ (kq1.kw 5 gw.2)⟩
  (.cons (hb3.mono (Ke.of_same s46)) ⟨gb3.mono (by decide) (by decide),kq3.kw 6 (kq2.kw 5 gw.2)⟩
  (.cons (cn ((s5.trans s6) _ _ g4) (.cons cU (.cons (hwF.mono kF6) .nil))) (two _ (by decide +kernel) (by decide +kernel) (kxs (by decide +kernel) (by decide +kernel)))
  (.cons (cn (s6 _ _ g5) (.cons cU (.cons (hwF.mono kF6) .nil))) (two _ (by decide +kernel) (by decide +kernel) (kxs (by decide +kernel) (by decide +kernel))) .nil))))
 have gL6:=s46 _ _ (bb3 _ _ nLf.1 nLf.2 (bb2 _ _ nLf.1 nLf.2 (bb1 _ _ nLf.1 nLf.2 gF)))
 have hF6':=hF3.same s46
 have hN6':=hNF.but n1 n2 ((bb1.trans bb2).trans (bb3.trans (But.of_same s46)))
 have hw6:=hwF.mono kF6
 have lgL6:=lgF.mono kF6
 clear s46 s6 k36 k26 kF6
 generalize upd H5 M (.lst [wv,b1v,b3v, .ref p4, .ref p5])=H6 at g6 lg6 gL6 hF6' hN6' hw6 lgL6 ⊢
 refine ⟨L,M,_,_,rfl,rfl,gL6,g6,by rw [l7];show 7+5≤sizeLine;omega,fun N nN=> ?_⟩
 have sN:=ah (o:= .lst (w1++ [wv,b1v,b3v, .ref p4, .ref p5])) nN
 have gN:=ad (H:=H6) (a:=N) (o:= .lst (w1++ [wv,b1v,b3v, .ref p4, .ref p5]))
 have lgN:=(Lg.app lgL6 lg6).mono (Ke.of_same sN)
 have hFN:=hF6'.same sN
 have hNN:=hN6'.but n1 n2 (But.of_same sN)
 have hwN:=hw6.mono (Ke.of_same sN)
 have nNf:=hF6'.ne nN
 clear sN
 generalize upd H6 N (.lst (w1++ [wv,b1v,b3v, .ref p4, .ref p5]))=HN at gN lgN hFN hNN hwN ⊢
 have l12:(w1++ [wv,b1v,b3v, .ref p4, .ref p5]).length=12:=by rw [yt,l7];rfl
 generalize w1++ [wv,b1v,b3v, .ref p4, .ref p5]=w2 at gN lgN l12
 clear gL6 g6 lg6 lgL6 hF6' hN6' hw6 hb1 hb2 hb3 g4 g5 s4 s5 gF lgF hFF hNF hwF bb1 bb2 bb3 hF1 hF2 hF3 k1 k2 k3
 refine aV ?_
 try dsimp only
 refine ⟨_,rfl,_,rfl,_,rfl,_,rfl,fe,c,wv, .tup wps,12,rfl,hFN,hwN,gw.1,by decide,fun cv cp H1 hF1 bb1 hcv gcp kqc=> ?_⟩
 have k1:=But.ke bb1 hFN hF1
 refine ⟨by show 2≤sizeLine;decide,fun p1 np1=> ?_⟩
 have s1':=ah (o:= .tup [wv,cv]) np1
 have g1':=ad (H:=H1) (a:=p1) (o:= .tup [wv,cv])
 generalize upd H1 p1 (.tup [wv,cv])=H2 at s1' g1' ⊢
 refine ⟨by show 2≤sizeLine;decide,fun p2 np2=> ?_⟩
 have s2':=ah (o:= .tup [.str (Str.ofString "either"), .ref p1]) np2
 have g2':=ad (H:=H2) (a:=p2) (o:= .tup [.str (Str.ofString "either"), .ref p1])
 generalize upd H2 p2 (.tup [.str (Str.ofString "either"), .ref p1])=H3 at s2' g2' ⊢
 have s12:=s1'.trans s2'
 have hF3:=hF1.same s12
 have hN3:=hNN.but n1 n2 (bb1.trans (But.of_same s12))
 refine ⟨_,rfl,_,rfl,fe,c,nl,1,rfl,hF3,hN3,n1,n2,by decide,fun tv tt H4 hF4 bb4 htv ty dp gpt=> ?_⟩
 have k4:=But.ke bb4 hF3 hF4
 obtain ⟨nxs,nx0,en1,en2,nm0⟩:=(hN3.but n1 n2 bb4).at (i:=0) (by decide) (by decide)
 refine ⟨_,rfl,nl,nxs,0, .str nx0,rfl,rfl,SqL.of en1,en2,by show 2≤sizeLine;decide,fun p3 np3=> ?_⟩
 have s3':=ah (o:= .tup [.str (Str.ofString "name"), .str nx0]) np3
 have g3':=ad (H:=H4) (a:=p3) (o:= .tup [.str (Str.ofString "name"), .str nx0])
 generalize upd H4 p3 (.tup [.str (Str.ofString "name"), .str nx0])=H5 at s3' g3' ⊢
 refine ⟨by show 3≤sizeLine;decide,fun p6 np6=> ?_⟩
 have s6:=ah (o:= .tup [.str (Str.ofString "like"),tv, .ref p3]) np6
 have g6:=ad (H:=H5) (a:=p6) (o:= .tup [.str (Str.ofString "like"),tv, .ref p3])
 generalize upd H5 p6 (.tup [.str (Str.ofString "like"),tv, .ref p3])=H6 at s6 g6 ⊢
 refine ⟨by show 2≤sizeLine;decide,fun M nM=> ?_⟩
 have s7:=ah (o:= .lst [.ref p2, .ref p6]) nM
 have g7:=ad (H:=H6) (a:=M) (o:= .lst [.ref p2, .ref p6])
 have s47:=s3'.trans (s6.trans s7)
 have k47:=k4.trans (Ke.of_same s47)
 have k27:=(Ke.of_same s12).trans k47
 have kN7:=k1.trans k27
 have ne1:p1≠fe∧p1≠c:=hF1.ne np1
 have ne2:p2≠fe∧p2≠c:=(hF1.same s1').ne np2
 have e1:=s47 _ _ (bb4 _ _ ne1.1 ne1.2 (s2' _ _ g1'))
 have e2:=s47 _ _ (bb4 _ _ ne2.1 ne2.2 g2')
 have gc:Gp 4 14 cp:=gcp
 have inn:Gp 4 15 (.tup [.tup wps,cp])∧Kw 7 (.tup [.tup wps,cp]):=by
  have mm:∀t∈ [Pl.tup wps,cp],(Gp 4 14 t∧Kw 7 t)∧¬Kx t:=fun t m=>by
   simp only [yk,yq,or_false] at m
   rcases m with rfl|rfl
   · exact ⟨⟨gw.1.mono (by decide) (by decide),Kw.mono (by decide) _ gw.2⟩,dm⟩
   · exact ⟨⟨gc,Kw.mono (by decide) _ (kqc.kw 5 gw.2)⟩,kqc.kx⟩
  exact ⟨.tup 14 _ (by simp) (fun z=>absurd z (by simp)) fun t m=>(mm t m).1.1,fu (fun ⟨t,m,e⟩=>absurd e (mm t m).2) fun t m=>(mm t m).1.2⟩
 have lg7:Lg _ [.ref p2, .ref p6]:=
  .cons (cn e2 (.cons cU (.cons (cn e1 (.cons (hwN.mono kN7) (.cons (hcv.mono k27) .nil))) .nil))) (fw (l:=4) (d:=15) (by simp) (by decide) (by decide) (fun t m=>by
   simp only [yk,yq,or_false] at m
   rcases m with rfl|rfl
   · exact ⟨bu (by decide +kernel) (by decide +kernel) _ _,by rw [Kw]<;>simp⟩
   · exact inn) fun t m=>by
   simp only [yk,yq,or_false] at m
   rcases m with rfl|rfl
   · exact kxs (by decide +kernel) (by decide +kernel)
   · exact dm)
  (.cons (jZ (t:= .tup [.str (Str.ofString "like"),tt, .tup [.str (Str.ofString "name"), .str nx0]]) (c6 (s7 _ _ g6) (.cons bX (.cons (htv.mono (Kd.of_same s47)) (.cons (c6 ((s6.trans s7) _ _ g3') (.cons bX (.cons bX .nil))) .nil))))) ((vd (gpt.mono (yl _) (by decide)) (vc nm0 4) ty (.nm nx0)).gs (by decide)) .nil)
 have gN7:=s47 _ _ (bb4 _ _ nNf.1 nNf.2 (s12 _ _ (bb1 _ _ nNf.1 nNf.2 gN)))
 have lgN7:=lgN.mono kN7
 clear s47 s7 k47 k27 kN7
 generalize upd H6 M (.lst [.ref p2, .ref p6])=H7 at g7 lg7 gN7 lgN7 ⊢
 refine ⟨N,M,_,_,rfl,rfl,gN7,g7,by rw [l12];show 12+2≤sizeLine;omega,fun T nT=> ?_⟩
 have sT':=ah (o:= .lst (w2++ [.ref p2, .ref p6])) nT
 have gT:=ad (H:=H7) (a:=T) (o:= .lst (w2++ [.ref p2, .ref p6]))
 have lgT:=(Lg.app lgN7 lg7).mono (Ke.of_same sT')
 generalize upd H7 T (.lst (w2++ [.ref p2, .ref p6]))=HT' at gT lgT ⊢
 generalize w2++ [.ref p2, .ref p6]=w3 at gT lgT
 refine aV ?_
 try dsimp only
 refine ⟨_,rfl,T,rfl,⟨_,SqL.of gT⟩,?_⟩
 refine kY (xs:=w3) (fun i σ H'=>Same HT' H'∧∃x7,σ= [some (.ref a),some (.ref fe),some (.ref nl),some (.ref ro),some wv,some bv,some (.ref T),x7])
  ⟨Same.refl _,_,rfl⟩ (fun i σ H' _ q=>SqL.of (q.1 _ _ gT)) ?_ (fun σ H' _=>k H')
 rintro i x σ H' ex ⟨sH,x7,rfl⟩
 obtain ⟨p,hp,gp⟩:=lgT x (yw ex)
 refine aV ?_
 try dsimp only
 refine ⟨_,rfl,x,p,rfl,hp.mono (Ke.of_same sH),gp,fun H2 s2=>⟨_,rfl,iteF ?_⟩⟩
 exact ⟨sH.trans s2,_,rfl⟩
end
open PySem L2 Mth Wd
theorem all_mk {l:PySem.W.OpenLaw} {w:World} {K:PySem.W.Frag} {h:Heap} {mg:Str→Option Value} {fa C fI:Addr} (X:K.In h) (G:h.Ns mainGlobals mg) (hfa:mg "law"=some (.ref fa))
 {odI anI:Option Addr} {slI:Array (Option Value)} {ocI kVI dcI pmI cdI ctI:Value}
 {fCD:Addr} {odCD anCD:Option Addr} {slCD:Array (Option Value)} {ocCD kVCD dcCD pmCD cdCD ctCD:Value}
 {fFR:Addr} {odFR anFR:Option Addr} {slFR:Array (Option Value)} {ocFR kVFR dcFR pmFR cdFR ctFR:Value}
 {fIW:Addr} {odIW anIW:Option Addr} {slIW:Array (Option Value)} {ocIW kVIW dcIW pmIW cdIW ctIW:Value}
 {fTO:Addr} {odTO anTO:Option Addr} {slTO:Array (Option Value)} {ocTO kVTO dcTO pmTO cdTO ctTO:Value}
 {fNQ:Addr} {odNQ anNQ:Option Addr} {slNQ:Array (Option Value)} {ocNQ kVNQ dcNQ pmNQ cdNQ ctNQ:Value}
 {fFQ:Addr} {odFQ anFQ:Option Addr} {slFQ:Array (Option Value)} {ocFQ kVFQ dcFQ pmFQ cdFQ ctFQ:Value}
 {fTQ:Addr} {odTQ anTQ:Option Addr} {slTQ:Array (Option Value)} {ocTQ kVTQ dcTQ pmTQ cdTQ ctTQ:Value}
 {fCT:Addr} {odCT anCT:Option Addr} {slCT:Array (Option Value)} {ocCT kVCT dcCT pmCT cdCT ctCT:Value}
 {fFE:Addr} {odFE anFE:Option Addr} {slFE:Array (Option Value)} {ocFE kVFE dcFE pmFE cdFE ctFE:Value}
 {fDR:Addr} {odDR anDR:Option Addr} {slDR:Array (Option Value)} {ocDR kVDR dcDR pmDR cdDR ctDR:Value}
 {fGR:Addr} {odGR anGR:Option Addr} {slGR:Array (Option Value)} {ocGR kVGR dcGR pmGR cdGR ctGR:Value}
 {fLO:Addr} {odLO anLO:Option Addr} {slLO:Array (Option Value)} {ocLO kVLO dcLO pmLO cdLO ctLO:Value}
 {fWQ:Addr} {odWQ anWQ:Option Addr} {slWQ:Array (Option Value)} {ocWQ kVWQ dcWQ pmWQ cdWQ ctWQ:Value}
 {fSQ:Addr} {odSQ anSQ:Option Addr} {slSQ:Array (Option Value)} {ocSQ kVSQ dcSQ pmSQ cdSQ ctSQ:Value}
 {fSH:Addr} {odSH anSH:Option Addr} {slSH:Array (Option Value)} {ocSH kVSH dcSH pmSH cdSH ctSH:Value}
 {fNM:Addr} {odNM anNM:Option Addr} {slNM:Array (Option Value)} {ocNM kVNM dcNM pmNM cdNM ctNM:Value}
 {fTE:Addr} {odTE anTE:Option Addr} {slTE:Array (Option Value)} {ocTE kVTE dcTE pmTE cdTE ctTE:Value}
 {fOD:Addr} {odOD anOD:Option Addr} {slOD:Array (Option Value)} {ocOD kVOD dcOD pmOD cdOD ctOD:Value}
 {fBE:Addr} {odBE anBE:Option Addr} {slBE:Array (Option Value)} {ocBE kVBE dcBE pmBE cdBE ctBE:Value}
 {fLN:Addr} {odLN anLN:Option Addr} {slLN:Array (Option Value)} {ocLN kVLN dcLN pmLN cdLN ctLN:Value}
 {fHD:Addr} {odHD anHD:Option Addr} {slHD:Array (Option Value)} {ocHD kVHD dcHD pmHD cdHD ctHD:Value}
 {fLT:Addr} {odLT anLT:Option Addr} {slLT:Array (Option Value)} {ocLT kVLT dcLT pmLT cdLT ctLT:Value}
 {fRT:Addr} {odRT anRT:Option Addr} {slRT:Array (Option Value)} {ocRT kVRT dcRT pmRT cdRT ctRT:Value}
 {fPQ:Addr} {odPQ anPQ:Option Addr} {slPQ:Array (Option Value)} {ocPQ kVPQ dcPQ pmPQ cdPQ ctPQ:Value}
 {fSM:Addr} {odSM anSM:Option Addr} {slSM:Array (Option Value)} {ocSM kVSM dcSM pmSM cdSM ctSM:Value}
 {fAQ:Addr} {odAQ anAQ:Option Addr} {slAQ:Array (Option Value)} {ocAQ kVAQ dcAQ pmAQ cdAQ ctAQ:Value}
 {fWS:Addr} {odWS anWS:Option Addr} {slWS:Array (Option Value)} {ocWS kVWS dcWS pmWS cdWS ctWS:Value}
 {fSL:Addr} {odSL anSL:Option Addr} {slSL:Array (Option Value)} {ocSL kVSL dcSL pmSL cdSL ctSL:Value}
 {fLS:Addr} {odLS anLS:Option Addr} {slLS:Array (Option Value)} {ocLS kVLS dcLS pmLS cdLS ctLS:Value}
 {fPA:Addr} {odPA anPA:Option Addr} {slPA:Array (Option Value)} {ocPA kVPA dcPA pmPA cdPA ctPA:Value}
 {fAT:Addr} {odAT anAT:Option Addr} {slAT:Array (Option Value)} {ocAT kVAT dcAT pmAT cdAT ctAT:Value}
 {fWI:Addr} {odWI anWI:Option Addr} {slWI:Array (Option Value)} {ocWI kVWI dcWI pmWI cdWI ctWI:Value}
 {fLM:Addr} {odLM anLM:Option Addr} {slLM:Array (Option Value)} {ocLM kVLM dcLM pmLM cdLM ctLM:Value}
 {fLW:Addr} {odLW anLW:Option Addr} {slLW:Array (Option Value)} {ocLW kVLW dcLW pmLW cdLW ctLW:Value}
 {fLA:Addr} {odLA anLA:Option Addr} {slLA:Array (Option Value)} {ocLA kVLA dcLA pmLA cdLA ctLA:Value}
 {nm qn:Str} {Nn:Addr} {bs bm:List Value} {hdct:Bool} {sn:List Str} {sub:List Value} {ab:Bool} {col:Option Bool} {dd:Option Addr} {k0 k1 k2 k3 k5:Option Value}
 {tk1 tk2:Tok}
 {Z:Addr} {dZ:Option Addr} {nZ:Nat} {sZ:Array (Option Value)} {t0 t1:Tok}
 (aC:PySem.W.nsIn K mainGlobals "NoShare"=some (some (.ref C)))
 (iI:PySem.W.findIn K (.ref C) "__init__"=some (some (.ref fI)))
 (fnI:PySem.W.isFn K (.ref fI)=true)
 (lI:K.lookup fI=some ⟨ocI,odI, .func (PySem.W.fnOf "__init__" "WishError.__init__" (ay gU) (au gU) (ag gU) .none kVI dcI pmI anI cdI ctI),slI⟩)
 (cI:PySem.W.codeIn K cdI "WishError.__init__"=true)
 (kI:PySem.W.keepIn K (.ref fI)=true)
 (aCD:PySem.W.nsIn K mainGlobals "common_divisor"=some (some (.ref fCD)))
 (lCD:K.lookup fCD=some ⟨ocCD,odCD, .func (PySem.W.fnOf "common_divisor" "common_divisor" (ay sCd) (au sCd) (ag sCd) .none kVCD dcCD pmCD anCD cdCD ctCD),slCD⟩)
 (cCD:PySem.W.codeIn K cdCD "common_divisor"=true)
 (kCD:PySem.W.keepIn K (.ref fCD)=true)
 (aFR:PySem.W.nsIn K mainGlobals "fraction"=some (some (.ref fFR)))
 (lFR:K.lookup fFR=some ⟨ocFR,odFR, .func (PySem.W.fnOf "fraction" "fraction" (ay sFr) (au sFr) (ag sFr) .none kVFR dcFR pmFR anFR cdFR ctFR),slFR⟩)
 (cFR:PySem.W.codeIn K cdFR "fraction"=true)
 (kFR:PySem.W.keepIn K (.ref fFR)=true)
 (aIW:PySem.W.nsIn K mainGlobals "is_whole"=some (some (.ref fIW)))
 (lIW:K.lookup fIW=some ⟨ocIW,odIW, .func (PySem.W.fnOf "is_whole" "is_whole" (ay sIw) (au sIw) (ag sIw) .none kVIW dcIW pmIW anIW cdIW ctIW),slIW⟩)
 (cIW:PySem.W.codeIn K cdIW "is_whole"=true)
 (kIW:PySem.W.keepIn K (.ref fIW)=true)
 (aTO:PySem.W.nsIn K mainGlobals "is_tuple_of"=some (some (.ref fTO)))
 (lTO:K.lookup fTO=some ⟨ocTO,odTO, .func (PySem.W.fnOf "is_tuple_of" "is_tuple_of" (ay sIto) (au sIto) (ag sIto) .none kVTO dcTO pmTO anTO cdTO ctTO),slTO⟩)
 (cTO:PySem.W.codeIn K cdTO "is_tuple_of"=true)
 (kTO:PySem.W.keepIn K (.ref fTO)=true)
 (aNQ:PySem.W.nsIn K mainGlobals "is_name"=some (some (.ref fNQ)))
 (lNQ:K.lookup fNQ=some ⟨ocNQ,odNQ, .func (PySem.W.fnOf "is_name" "is_name" (ay sNmQ) (au sNmQ) (ag sNmQ) .none kVNQ dcNQ pmNQ anNQ cdNQ ctNQ),slNQ⟩)
 (cNQ:PySem.W.codeIn K cdNQ "is_name"=true)
 (kNQ:PySem.W.keepIn K (.ref fNQ)=true)
 (aFQ:PySem.W.nsIn K mainGlobals "is_fraction"=some (some (.ref fFQ)))
 (lFQ:K.lookup fFQ=some ⟨ocFQ,odFQ, .func (PySem.W.fnOf "is_fraction" "is_fraction" (ay sFrQ) (au sFrQ) (ag sFrQ) .none kVFQ dcFQ pmFQ anFQ cdFQ ctFQ),slFQ⟩)
 (cFQ:PySem.W.codeIn K cdFQ "is_fraction"=true)
 (kFQ:PySem.W.keepIn K (.ref fFQ)=true)
 (aTQ:PySem.W.nsIn K mainGlobals "is_term"=some (some (.ref fTQ)))
 (lTQ:K.lookup fTQ=some ⟨ocTQ,odTQ, .func (PySem.W.fnOf "is_term" "is_term" (ay sTmQ) (au sTmQ) (ag sTmQ) .none kVTQ dcTQ pmTQ anTQ cdTQ ctTQ),slTQ⟩)
 (cTQ:PySem.W.codeIn K cdTQ "is_term"=true)
 (kTQ:PySem.W.keepIn K (.ref fTQ)=true)
 (aCT:PySem.W.nsIn K mainGlobals "are_call_terms"=some (some (.ref fCT)))
 (lCT:K.lookup fCT=some ⟨ocCT,odCT, .func (PySem.W.fnOf "are_call_terms" "are_call_terms" (ay sCtQ) (au sCtQ) (ag sCtQ) .none kVCT dcCT pmCT anCT cdCT ctCT),slCT⟩)
 (cCT:PySem.W.codeIn K cdCT "are_call_terms"=true)
 (kCT:PySem.W.keepIn K (.ref fCT)=true)
 (aFE:PySem.W.nsIn K mainGlobals "_law_feed"=some (some (.ref fFE)))
 (lFE:K.lookup fFE=some ⟨ocFE,odFE, .func (PySem.W.fnOf "_law_feed" "_law_feed" (ay iF) (au iF) (ag iF) .none kVFE dcFE pmFE anFE cdFE ctFE),slFE⟩)
 (cFE:PySem.W.codeIn K cdFE "_law_feed"=true)
 (kFE:PySem.W.keepIn K (.ref fFE)=true)
 (aDR:PySem.W.nsIn K mainGlobals "_law_draw"=some (some (.ref fDR)))
 (lDR:K.lookup fDR=some ⟨ocDR,odDR, .func (PySem.W.fnOf "_law_draw" "_law_draw" (ay cO) (au cO) (ag cO) .none kVDR dcDR pmDR anDR cdDR ctDR),slDR⟩)
 (cDR:PySem.W.codeIn K cdDR "_law_draw"=true)
 (kDR:PySem.W.keepIn K (.ref fDR)=true)
 (aGR:PySem.W.nsIn K mainGlobals "_law_great"=some (some (.ref fGR)))
 (lGR:K.lookup fGR=some ⟨ocGR,odGR, .func (PySem.W.fnOf "_law_great" "_law_great" (ay di) (au di) (ag di) .none kVGR dcGR pmGR anGR cdGR ctGR),slGR⟩)
 (cGR:PySem.W.codeIn K cdGR "_law_great"=true)
 (kGR:PySem.W.keepIn K (.ref fGR)=true)
 (aLO:PySem.W.nsIn K mainGlobals "_law_lowest"=some (some (.ref fLO)))
 (lLO:K.lookup fLO=some ⟨ocLO,odLO, .func (PySem.W.fnOf "_law_lowest" "_law_lowest" (ay sLow) (au sLow) (ag sLow) .none kVLO dcLO pmLO anLO cdLO ctLO),slLO⟩)
 (cLO:PySem.W.codeIn K cdLO "_law_lowest"=true)
 (kLO:PySem.W.keepIn K (.ref fLO)=true)
 (aWQ:PySem.W.nsIn K mainGlobals "_law_whole"=some (some (.ref fWQ)))
 (lWQ:K.lookup fWQ=some ⟨ocWQ,odWQ, .func (PySem.W.fnOf "_law_whole" "_law_whole" (ay f8) (au f8) (ag f8) .none kVWQ dcWQ pmWQ anWQ cdWQ ctWQ),slWQ⟩)
 (cWQ:PySem.W.codeIn K cdWQ "_law_whole"=true)
 (kWQ:PySem.W.keepIn K (.ref fWQ)=true)
 (aSQ:PySem.W.nsIn K mainGlobals "_law_is_share"=some (some (.ref fSQ)))
 (lSQ:K.lookup fSQ=some ⟨ocSQ,odSQ, .func (PySem.W.fnOf "_law_is_share" "_law_is_share" (ay iD) (au iD) (ag iD) .none kVSQ dcSQ pmSQ anSQ cdSQ ctSQ),slSQ⟩)
 (cSQ:PySem.W.codeIn K cdSQ "_law_is_share"=true)
 (kSQ:PySem.W.keepIn K (.ref fSQ)=true)
 (aSH:PySem.W.nsIn K mainGlobals "_law_share"=some (some (.ref fSH)))
 (lSH:K.lookup fSH=some ⟨ocSH,odSH, .func (PySem.W.fnOf "_law_share" "_law_share" (ay fb) (au fb) (ag fb) .none kVSH dcSH pmSH anSH cdSH ctSH),slSH⟩)
 (cSH:PySem.W.codeIn K cdSH "_law_share"=true)
 (kSH:PySem.W.keepIn K (.ref fSH)=true)
 (aNM:PySem.W.nsIn K mainGlobals "_law_names"=some (some (.ref fNM)))
 (lNM:K.lookup fNM=some ⟨ocNM,odNM, .func (PySem.W.fnOf "_law_names" "_law_names" (ay fg) (au fg) (ag fg) .none kVNM dcNM pmNM anNM cdNM ctNM),slNM⟩)
 (cNM:PySem.W.codeIn K cdNM "_law_names"=true)
 (kNM:PySem.W.keepIn K (.ref fNM)=true)
 (aTE:PySem.W.nsIn K mainGlobals "_law_term"=some (some (.ref fTE)))
 (lTE:K.lookup fTE=some ⟨ocTE,odTE, .func (PySem.W.fnOf "_law_term" "_law_term" (ay iB) (au iB) (ag iB) .none kVTE dcTE pmTE anTE cdTE ctTE),slTE⟩)
 (cTE:PySem.W.codeIn K cdTE "_law_term"=true)
 (kTE:PySem.W.keepIn K (.ref fTE)=true)
 (aOD:PySem.W.nsIn K mainGlobals "_law_odd"=some (some (.ref fOD)))
 (lOD:K.lookup fOD=some ⟨ocOD,odOD, .func (PySem.W.fnOf "_law_odd" "_law_odd" (ay sOdd) (au sOdd) (ag sOdd) .none kVOD dcOD pmOD anOD cdOD ctOD),slOD⟩)
 (cOD:PySem.W.codeIn K cdOD "_law_odd"=true)
 (kOD:PySem.W.keepIn K (.ref fOD)=true)
 (aBE:PySem.W.nsIn K mainGlobals "_law_bent"=some (some (.ref fBE)))
 (lBE:K.lookup fBE=some ⟨ocBE,odBE, .func (PySem.W.fnOf "_law_bent" "_law_bent" (ay iG) (au iG) (ag iG) .none kVBE dcBE pmBE anBE cdBE ctBE),slBE⟩)
 (cBE:PySem.W.codeIn K cdBE "_law_bent"=true)
 (kBE:PySem.W.keepIn K (.ref fBE)=true)
 (aLN:PySem.W.nsIn K mainGlobals "_law_is_name"=some (some (.ref fLN)))
 (lLN:K.lookup fLN=some ⟨ocLN,odLN, .func (PySem.W.fnOf "_law_is_name" "_law_is_name" (ay sLNm) (au sLNm) (ag sLNm) .none kVLN dcLN pmLN anLN cdLN ctLN),slLN⟩)
 (cLN:PySem.W.codeIn K cdLN "_law_is_name"=true)
 (kLN:PySem.W.keepIn K (.ref fLN)=true)
 (aHD:PySem.W.nsIn K mainGlobals "_law_headed"=some (some (.ref fHD)))
 (lHD:K.lookup fHD=some ⟨ocHD,odHD, .func (PySem.W.fnOf "_law_headed" "_law_headed" (ay iE) (au iE) (ag iE) .none kVHD dcHD pmHD anHD cdHD ctHD),slHD⟩)
 (cHD:PySem.W.codeIn K cdHD "_law_headed"=true)
 (kHD:PySem.W.keepIn K (.ref fHD)=true)
 (aLT:PySem.W.nsIn K mainGlobals "_law_is_term"=some (some (.ref fLT)))
 (lLT:K.lookup fLT=some ⟨ocLT,odLT, .func (PySem.W.fnOf "_law_is_term" "_law_is_term" (ay sLTm) (au sLTm) (ag sLTm) .none kVLT dcLT pmLT anLT cdLT ctLT),slLT⟩)
 (cLT:PySem.W.codeIn K cdLT "_law_is_term"=true)
 (kLT:PySem.W.keepIn K (.ref fLT)=true)
 (aRT:PySem.W.nsIn K mainGlobals "_law_right"=some (some (.ref fRT)))
 (lRT:K.lookup fRT=some ⟨ocRT,odRT, .func (PySem.W.fnOf "_law_right" "_law_right" (ay fc) (au fc) (ag fc) .none kVRT dcRT pmRT anRT cdRT ctRT),slRT⟩)
 (cRT:PySem.W.codeIn K cdRT "_law_right"=true)
 (kRT:PySem.W.keepIn K (.ref fRT)=true)
 (aPQ:PySem.W.nsIn K mainGlobals "is_pair"=some (some (.ref fPQ)))
 (lPQ:K.lookup fPQ=some ⟨ocPQ,odPQ, .func (PySem.W.fnOf "is_pair" "is_pair" (ay sPrQ) (au sPrQ) (ag sPrQ) .none kVPQ dcPQ pmPQ anPQ cdPQ ctPQ),slPQ⟩)
 (cPQ:PySem.W.codeIn K cdPQ "is_pair"=true)
 (kPQ:PySem.W.keepIn K (.ref fPQ)=true)
 (aSM:PySem.W.nsIn K mainGlobals "is_sum"=some (some (.ref fSM)))
 (lSM:K.lookup fSM=some ⟨ocSM,odSM, .func (PySem.W.fnOf "is_sum" "is_sum" (ay sSmQ) (au sSmQ) (ag sSmQ) .none kVSM dcSM pmSM anSM cdSM ctSM),slSM⟩)
 (cSM:PySem.W.codeIn K cdSM "is_sum"=true)
 (kSM:PySem.W.keepIn K (.ref fSM)=true)
 (aAQ:PySem.W.nsIn K mainGlobals "is_atom"=some (some (.ref fAQ)))
 (lAQ:K.lookup fAQ=some ⟨ocAQ,odAQ, .func (PySem.W.fnOf "is_atom" "is_atom" (ay sAtQ) (au sAtQ) (ag sAtQ) .none kVAQ dcAQ pmAQ anAQ cdAQ ctAQ),slAQ⟩)
 (cAQ:PySem.W.codeIn K cdAQ "is_atom"=true)
 (kAQ:PySem.W.keepIn K (.ref fAQ)=true)
 (aWS:PySem.W.nsIn K mainGlobals "is_wish"=some (some (.ref fWS)))
 (lWS:K.lookup fWS=some ⟨ocWS,odWS, .func (PySem.W.fnOf "is_wish" "is_wish" (ay sWsQ) (au sWsQ) (ag sWsQ) .none kVWS dcWS pmWS anWS cdWS ctWS),slWS⟩)
 (cWS:PySem.W.codeIn K cdWS "is_wish"=true)
 (kWS:PySem.W.keepIn K (.ref fWS)=true)
 (aSL:PySem.W.nsIn K mainGlobals "_law_small"=some (some (.ref fSL)))
 (lSL:K.lookup fSL=some ⟨ocSL,odSL, .func (PySem.W.fnOf "_law_small" "_law_small" (ay f9) (au f9) (ag f9) .none kVSL dcSL pmSL anSL cdSL ctSL),slSL⟩)
 (cSL:PySem.W.codeIn K cdSL "_law_small"=true)
 (kSL:PySem.W.keepIn K (.ref fSL)=true)
 (aLS:PySem.W.nsIn K mainGlobals "_law_sum"=some (some (.ref fLS)))
 (lLS:K.lookup fLS=some ⟨ocLS,odLS, .func (PySem.W.fnOf "_law_sum" "_law_sum" (ay iC) (au iC) (ag iC) .none kVLS dcLS pmLS anLS cdLS ctLS),slLS⟩)
 (cLS:PySem.W.codeIn K cdLS "_law_sum"=true)
 (kLS:PySem.W.keepIn K (.ref fLS)=true)
 (aPA:PySem.W.nsIn K mainGlobals "_law_pairs"=some (some (.ref fPA)))
 (lPA:K.lookup fPA=some ⟨ocPA,odPA, .func (PySem.W.fnOf "_law_pairs" "_law_pairs" (ay ff) (au ff) (ag ff) .none kVPA dcPA pmPA anPA cdPA ctPA),slPA⟩)
 (cPA:PySem.W.codeIn K cdPA "_law_pairs"=true)
 (kPA:PySem.W.keepIn K (.ref fPA)=true)
 (aAT:PySem.W.nsIn K mainGlobals "_law_atom"=some (some (.ref fAT)))
 (lAT:K.lookup fAT=some ⟨ocAT,odAT, .func (PySem.W.fnOf "_law_atom" "_law_atom" (ay iH) (au iH) (ag iH) .none kVAT dcAT pmAT anAT cdAT ctAT),slAT⟩)
 (cAT:PySem.W.codeIn K cdAT "_law_atom"=true)
 (kAT:PySem.W.keepIn K (.ref fAT)=true)
 (aWI:PySem.W.nsIn K mainGlobals "_law_wish"=some (some (.ref fWI)))
 (lWI:K.lookup fWI=some ⟨ocWI,odWI, .func (PySem.W.fnOf "_law_wish" "_law_wish" (ay iA) (au iA) (ag iA) .none kVWI dcWI pmWI anWI cdWI ctWI),slWI⟩)
 (cWI:PySem.W.codeIn K cdWI "_law_wish"=true)
 (kWI:PySem.W.keepIn K (.ref fWI)=true)
 (aLM:PySem.W.nsIn K mainGlobals "_law_is_sum"=some (some (.ref fLM)))
 (lLM:K.lookup fLM=some ⟨ocLM,odLM, .func (PySem.W.fnOf "_law_is_sum" "_law_is_sum" (ay sLSq) (au sLSq) (ag sLSq) .none kVLM dcLM pmLM anLM cdLM ctLM),slLM⟩)
 (cLM:PySem.W.codeIn K cdLM "_law_is_sum"=true)
 (kLM:PySem.W.keepIn K (.ref fLM)=true)
 (aLW:PySem.W.nsIn K mainGlobals "_law_is_wish"=some (some (.ref fLW)))
 (lLW:K.lookup fLW=some ⟨ocLW,odLW, .func (PySem.W.fnOf "_law_is_wish" "_law_is_wish" (ay sLWq) (au sLWq) (ag sLWq) .none kVLW dcLW pmLW anLW cdLW ctLW),slLW⟩)
 (cLW:PySem.W.codeIn K cdLW "_law_is_wish"=true)
 (kLW:PySem.W.keepIn K (.ref fLW)=true)
 (aLA:PySem.W.nsIn K mainGlobals "law"=some (some (.ref fLA)))
 (lLA:K.lookup fLA=some ⟨ocLA,odLA, .func (PySem.W.fnOf "law" "law" (ay sLaw) (au sLaw) (ag sLaw) .none kVLA dcLA pmLA anLA cdLA ctLA),slLA⟩)
 (cLA:PySem.W.codeIn K cdLA "law"=true)
 (kLA:PySem.W.keepIn K (.ref fLA)=true)
 (kC:PySem.W.keepIn K (.ref C)=true)
 (lC:K.lookup C=some (excClassObj nm qn C Nn bs bm hdct sn sub ab col dd k0 k1 k2 k3 k5 "ValueError.__new__"))
 (aML:PySem.W.nsIn K mainGlobals "MOST_LETTERS"=some (some (.int 8 tk1)))
 (aMC:PySem.W.nsIn K mainGlobals "MOST_IN_CALL"=some (some (.int 3 tk2)))
 (aZ:PySem.W.nsIn K mainGlobals "ZERO"=some (some (.ref Z)))
 (lZ:K.lookup Z=some ⟨.type "tuple",dZ, .seq #[.int 0 t0, .int 1 t1] nZ,sZ⟩)
 (z_set:PySem.W.nsIn K mainGlobals "set"=some none)
 (z_abs:PySem.W.nsIn K mainGlobals "abs"=some none)
 (z_len:PySem.W.nsIn K mainGlobals "len"=some none)
 (z_range:PySem.W.nsIn K mainGlobals "range"=some none)
 (z_isinstance:PySem.W.nsIn K mainGlobals "isinstance"=some none)
 (z_tuple:PySem.W.nsIn K mainGlobals "tuple"=some none)
 (z_int:PySem.W.nsIn K mainGlobals "int"=some none)
 (z_bool:PySem.W.nsIn K mainGlobals "bool"=some none)
 (z_list:PySem.W.nsIn K mainGlobals "list"=some none)
 (z_str:PySem.W.nsIn K mainGlobals "str"=some none)
 (z_all:PySem.W.nsIn K mainGlobals "all"=some none)
 (z_any:PySem.W.nsIn K mainGlobals "any"=some none)
 (z_sum:PySem.W.nsIn K mainGlobals "sum"=some none)
 (z_zip:PySem.W.nsIn K mainGlobals "zip"=some none)
 (z_sorted:PySem.W.nsIn K mainGlobals "sorted"=some none)
 (z_ValueError:PySem.W.nsIn K mainGlobals "ValueError"=some none)
 (ln:Line "ValueError" bm):
 ∃fd:FuncData,(∀(s:Shared) (v:Value),BindsTo s fd ⟨[v],[]⟩ [("_law_script",v)])∧∀base:Heap,K.In base→base.Ns mainGlobals mg→FnOk l.prog w K mg base CX0 68 fa fd ["_law_script"] (n9 K):=by
 have e:=hfa.symm.trans (PySem.W.mg_of X G aLA)
 cases e
 have B:Blt mg:=⟨PySem.W.mg_none_of X G z_abs,PySem.W.mg_none_of X G z_len,PySem.W.mg_none_of X G z_range,PySem.W.mg_none_of X G z_isinstance,PySem.W.mg_none_of X G z_tuple,PySem.W.mg_none_of X G z_int,PySem.W.mg_none_of X G z_bool,PySem.W.mg_none_of X G z_list,PySem.W.mg_none_of X G z_str,PySem.W.mg_none_of X G z_all,PySem.W.mg_none_of X G z_any,PySem.W.mg_none_of X G z_sum,PySem.W.mg_none_of X G z_zip,PySem.W.mg_none_of X G z_sorted,PySem.W.mg_none_of X G z_ValueError⟩
 have FI:=aL (st:=gU) lI cI kI
 have bI:=FI.binds (ps:= ["self","words"]) fun _ _ _ _ _ _ us hl=>match us,hl with| [_,_],_=>rfl
 have FCD:=aL (st:=sCd) lCD cCD kCD
 have bCD:=FCD.binds (ps:= ["one","other"]) fun _ _ _ _ _ _ us hl=>match us,hl with| [_,_],_=>rfl
 have mCD:=PySem.W.mg_of X G aCD
 have FFR:=aL (st:=sFr) lFR cFR kFR
 have bFR:=FFR.binds (ps:= ["top","bottom"]) fun _ _ _ _ _ _ us hl=>match us,hl with| [_,_],_=>rfl
 have mFR:=PySem.W.mg_of X G aFR
 have FIW:=aL (st:=sIw) lIW cIW kIW
 have bIW:=FIW.binds (ps:= ["thing"]) fun _ _ _ _ _ _ us hl=>match us,hl with| [_],_=>rfl
 have mIW:=PySem.W.mg_of X G aIW
 have FTO:=aL (st:=sIto) lTO cTO kTO
 have bTO:=FTO.binds (ps:= ["thing","count"]) fun _ _ _ _ _ _ us hl=>match us,hl with| [_,_],_=>rfl
 have mTO:=PySem.W.mg_of X G aTO
 have FNQ:=aL (st:=sNmQ) lNQ cNQ kNQ
 have bNQ:=FNQ.binds (ps:= ["thing"]) fun _ _ _ _ _ _ us hl=>match us,hl with| [_],_=>rfl
 have mNQ:=PySem.W.mg_of X G aNQ
 have FFQ:=aL (st:=sFrQ) lFQ cFQ kFQ
 have bFQ:=FFQ.binds (ps:= ["thing"]) fun _ _ _ _ _ _ us hl=>match us,hl with| [_],_=>rfl
 have mFQ:=PySem.W.mg_of X G aFQ
 have FTQ:=aL (st:=sTmQ) lTQ cTQ kTQ
 have bTQ:=FTQ.binds (ps:= ["thing"]) fun _ _ _ _ _ _ us hl=>match us,hl with| [_],_=>rfl
 have mTQ:=PySem.W.mg_of X G aTQ
 have FCT:=aL (st:=sCtQ) lCT cCT kCT
 have bCT:=FCT.binds (ps:= ["thing"]) fun _ _ _ _ _ _ us hl=>match us,hl with| [_],_=>rfl
 have mCT:=PySem.W.mg_of X G aCT
 have FFE:=aL (st:=iF) lFE cFE kFE
 have bFE:=FFE.binds (ps:= ["_law_script"]) fun _ _ _ _ _ _ us hl=>match us,hl with| [_],_=>rfl
 have mFE:=PySem.W.mg_of X G aFE
 have FDR:=aL (st:=cO) lDR cDR kDR
 have bDR:=FDR.binds (ps:= ["_law_feed_here","_law_many"]) fun _ _ _ _ _ _ us hl=>match us,hl with| [_,_],_=>rfl
 have mDR:=PySem.W.mg_of X G aDR
 have FGR:=aL (st:=di) lGR cGR kGR
 have bGR:=FGR.binds (ps:= ["_law_feed_here","_law_most"]) fun _ _ _ _ _ _ us hl=>match us,hl with| [_,_],_=>rfl
 have mGR:=PySem.W.mg_of X G aGR
 have FLO:=aL (st:=sLow) lLO cLO kLO
 have bLO:=FLO.binds (ps:= ["_law_top","_law_bottom"]) fun _ _ _ _ _ _ us hl=>match us,hl with| [_,_],_=>rfl
 have mLO:=PySem.W.mg_of X G aLO
 have FWQ:=aL (st:=f8) lWQ cWQ kWQ
 have bWQ:=FWQ.binds (ps:= ["_law_thing"]) fun _ _ _ _ _ _ us hl=>match us,hl with| [_],_=>rfl
 have mWQ:=PySem.W.mg_of X G aWQ
 have FSQ:=aL (st:=iD) lSQ cSQ kSQ
 have bSQ:=FSQ.binds (ps:= ["_law_thing"]) fun _ _ _ _ _ _ us hl=>match us,hl with| [_],_=>rfl
 have mSQ:=PySem.W.mg_of X G aSQ
 have FSH:=aL (st:=fb) lSH cSH kSH
 have bSH:=FSH.binds (ps:= ["_law_feed_here"]) fun _ _ _ _ _ _ us hl=>match us,hl with| [_],_=>rfl
 have mSH:=PySem.W.mg_of X G aSH
 have FNM:=aL (st:=fg) lNM cNM kNM
 have bNM:=FNM.binds (ps:= ["_law_feed_here"]) fun _ _ _ _ _ _ us hl=>match us,hl with| [_],_=>rfl
 have mNM:=PySem.W.mg_of X G aNM
 have FTE:=aL (st:=iB) lTE cTE kTE
 have bTE:=FTE.binds (ps:= ["_law_feed_here","_law_names_here","_law_deep"]) fun _ _ _ _ _ _ us hl=>match us,hl with| [_,_,_],_=>rfl
 have mTE:=PySem.W.mg_of X G aTE
 have FOD:=aL (st:=sOdd) lOD cOD kOD
 have bOD:=FOD.binds (ps:= ["_law_feed_here","_law_thing"]) fun _ _ _ _ _ _ us hl=>match us,hl with| [_,_],_=>rfl
 have mOD:=PySem.W.mg_of X G aOD
 have FBE:=aL (st:=iG) lBE cBE kBE
 have bBE:=FBE.binds (ps:= ["_law_feed_here","_law_thing"]) fun _ _ _ _ _ _ us hl=>match us,hl with| [_,_],_=>rfl
 have mBE:=PySem.W.mg_of X G aBE
 have FLN:=aL (st:=sLNm) lLN cLN kLN
 have bLN:=FLN.binds (ps:= ["_law_thing"]) fun _ _ _ _ _ _ us hl=>match us,hl with| [_],_=>rfl
 have mLN:=PySem.W.mg_of X G aLN
 have FHD:=aL (st:=iE) lHD cHD kHD
 have bHD:=FHD.binds (ps:= ["_law_thing","_law_word","_law_many"]) fun _ _ _ _ _ _ us hl=>match us,hl with| [_,_,_],_=>rfl
 have mHD:=PySem.W.mg_of X G aHD
 have FLT:=aL (st:=sLTm) lLT cLT kLT
 have bLT:=FLT.binds (ps:= ["_law_thing"]) fun _ _ _ _ _ _ us hl=>match us,hl with| [_],_=>rfl
 have mLT:=PySem.W.mg_of X G aLT
 have FRT:=aL (st:=fc) lRT cRT kRT
 have bRT:=FRT.binds (ps:= ["_law_thing"]) fun _ _ _ _ _ _ us hl=>match us,hl with| [_],_=>rfl
 have mRT:=PySem.W.mg_of X G aRT
 have FPQ:=aL (st:=sPrQ) lPQ cPQ kPQ
 have bPQ:=FPQ.binds (ps:= ["thing"]) fun _ _ _ _ _ _ us hl=>match us,hl with| [_],_=>rfl
 have mPQ:=PySem.W.mg_of X G aPQ
 have FSM:=aL (st:=sSmQ) lSM cSM kSM
 have bSM:=FSM.binds (ps:= ["thing"]) fun _ _ _ _ _ _ us hl=>match us,hl with| [_],_=>rfl
 have mSM:=PySem.W.mg_of X G aSM
 have FAQ:=aL (st:=sAtQ) lAQ cAQ kAQ
 have bAQ:=FAQ.binds (ps:= ["thing"]) fun _ _ _ _ _ _ us hl=>match us,hl with| [_],_=>rfl
 have mAQ:=PySem.W.mg_of X G aAQ
 have FWS:=aL (st:=sWsQ) lWS cWS kWS
 have bWS:=FWS.binds (ps:= ["thing"]) fun _ _ _ _ _ _ us hl=>match us,hl with| [_],_=>rfl
 have mWS:=PySem.W.mg_of X G aWS
 have FSL:=aL (st:=f9) lSL cSL kSL
 have bSL:=FSL.binds (ps:= ["_law_feed_here"]) fun _ _ _ _ _ _ us hl=>match us,hl with| [_],_=>rfl
 have mSL:=PySem.W.mg_of X G aSL
 have FLS:=aL (st:=iC) lLS cLS kLS
 have bLS:=FLS.binds (ps:= ["_law_pairs_here"]) fun _ _ _ _ _ _ us hl=>match us,hl with| [_],_=>rfl
 have mLS:=PySem.W.mg_of X G aLS
 have FPA:=aL (st:=ff) lPA cPA kPA
 have bPA:=FPA.binds (ps:= ["_law_feed_here","_law_names_here","_law_deep","_law_most"]) fun _ _ _ _ _ _ us hl=>match us,hl with| [_,_,_,_],_=>rfl
 have mPA:=PySem.W.mg_of X G aPA
 have FAT:=aL (st:=iH) lAT cAT kAT
 have bAT:=FAT.binds (ps:= ["_law_feed_here","_law_names_here"]) fun _ _ _ _ _ _ us hl=>match us,hl with| [_,_],_=>rfl
 have mAT:=PySem.W.mg_of X G aAT
 have FWI:=aL (st:=iA) lWI cWI kWI
 have bWI:=FWI.binds (ps:= ["_law_feed_here","_law_names_here","_law_deep"]) fun _ _ _ _ _ _ us hl=>match us,hl with| [_,_,_],_=>rfl
 have mWI:=PySem.W.mg_of X G aWI
 have FLM:=aL (st:=sLSq) lLM cLM kLM
 have bLM:=FLM.binds (ps:= ["_law_thing"]) fun _ _ _ _ _ _ us hl=>match us,hl with| [_],_=>rfl
 have mLM:=PySem.W.mg_of X G aLM
 have FLW:=aL (st:=sLWq) lLW cLW kLW
 have bLW:=FLW.binds (ps:= ["_law_thing"]) fun _ _ _ _ _ _ us hl=>match us,hl with| [_],_=>rfl
 have mLW:=PySem.W.mg_of X G aLW
 have FLA:=aL (st:=sLaw) lLA cLA kLA
 have mX:=PySem.W.mg_of X G aC
 have mML:=PySem.W.mg_of X G aML
 have mZ:=PySem.W.mg_of X G aZ
 have hX:∀H:Hp,Dj.SqX K H Z [.int 0, .int 1]:=fun H=> .inr ⟨_,_,_,lZ,rfl,rfl,(by show 2≤sizeLine;decide), .cons ⟨t0,rfl⟩ (.cons ⟨t1,rfl⟩ .nil)⟩
 have hZ:∀H:Hp,SqT K H Z [.int 0, .int 1]:=fun H=>(hX H).sq
 have mMC:=PySem.W.mg_of X G aMC
 have XC:XCls K C fI:=⟨⟨_,_,_,_,_,_,_,_,_,_,_,_,_,_,_,_,lC,ln⟩,iI,fnI,kC⟩
 refine ⟨PySem.W.fnOf "law" "law" (ay sLaw) (au sLaw) (ag sLaw) .none kVLA dcLA pmLA anLA cdLA ctLA,fun s v=> .of_eq rfl,fun base _ _=> ?_⟩
 have gFR:FnOk l.prog w K mg base (CX1 l.prog w) 3 fFR _ ["top","bottom"] (spFr C):=xM FFR FCD bCD mCD FI bI mX XC B
 have gIW:FnOk l.prog w K mg base CX0 1 fIW _ ["thing"] spIw:=xK FIW B
 have gTO:FnOk l.prog w K mg base CX0 1 fTO _ ["thing","count"] spTo:=xC FTO B
 have gNQ:FnOk l.prog w K mg base CX0 1 fNQ _ ["thing"] spNm:=xG FNQ B mML
 have gFQ:FnOk l.prog w K mg base CX0 4 fFQ _ ["thing"] spFq:=xN FFQ gTO kTO bTO mTO gIW kIW bIW mIW gFR kFR bFR mFR
 have gTQ:FnOk l.prog w K mg base CX0 41 fTQ _ ["thing"] (spTm 20):=uY FTQ kTQ bTQ mTQ B mMC gTO kTO bTO mTO gNQ kNQ bNQ mNQ FCT kCT bCT mCT 20
 have gPQ:FnOk l.prog w K mg base CX0 42 fPQ _ ["thing"] spPr:=xF FPQ gTO kTO bTO mTO gTQ kTQ bTQ mTQ gFQ kFQ bFQ mFQ mZ hZ
 have gSM:FnOk l.prog w K mg base CX0 43 fSM _ ["thing"] n5:=w8 FSM B gPQ kPQ bPQ mPQ
 have gAQ:FnOk l.prog w K mg base CX0 44 fAQ _ ["thing"] spAq:=xP FAQ gTO kTO bTO mTO gNQ kNQ bNQ mNQ gSM kSM bSM mSM gFQ kFQ bFQ mFQ gTQ kTQ bTQ mTQ
 have gWS:FnOk l.prog w K mg base CX0 66 fWS _ ["thing"] (pW 21):=vZ FWS bWS mWS B gTO kTO bTO mTO gAQ kAQ bAQ mAQ 21 (yl _)
 have gDR:FnOk l.prog w K mg base CX0 1 fDR _ ["_law_feed_here","_law_many"] bY:=cw FDR B
 have gLO:FnOk l.prog w K mg base CX0 1 fLO _ ["_law_top","_law_bottom"] fJ:=m6 FLO B
 have gWQ:FnOk l.prog w K mg base CX0 1 fWQ _ ["_law_thing"] spWq:=xB FWQ B
 have gSQ:FnOk l.prog w K mg base CX0 2 fSQ _ ["_law_thing"] spSq:=xD FSQ B gWQ kWQ bWQ mWQ gLO kLO bLO mLO
 have gS3:FnOk l.prog w K mg base CX0 3 fSQ _ ["_law_thing"] spSq:=gSQ.mono (by decide)
 have gSH:FnOk l.prog w K mg base CX0 3 fSH _ ["_law_feed_here"] pY:=wd FSH FDR bDR mDR FGR bGR mGR FLO bLO mLO B
 have gSL:FnOk l.prog w K mg base CX0 3 fSL _ ["_law_feed_here"] pX:=wc FSL FDR bDR mDR FGR bGR mGR FLO bLO mLO B
 have gTE:FnOk l.prog w K mg base CX0 4 fTE _ ["_law_feed_here","_law_names_here","_law_deep"] (eY 3):=tW FTE bTE mTE B FDR bDR mDR 3
 have gT5:FnOk l.prog w K mg base CX0 5 fTE _ ["_law_feed_here","_law_names_here","_law_deep"] (eY 3):=gTE.mono (by decide)
 have gPA:FnOk l.prog w K mg base CX0 5 fPA _ ["_law_feed_here","_law_names_here","_law_deep","_law_most"] fY:=qS FPA B gDR kDR bDR mDR gTE kTE bTE mTE gSL kSL bSL mSL
 have gLS:FnOk l.prog w K mg base CX0 3 fLS _ ["_law_pairs_here"] jb:=tX FLS B gLO kLO bLO mLO
 have gAT:FnOk l.prog w K mg base CX0 6 fAT _ ["_law_feed_here","_law_names_here"] jd:=u5 FAT gTE kTE bTE mTE gSH kSH bSH mSH gLS kLS bLS mLS gPA kPA bPA mPA gDR kDR bDR mDR
 have gWI:FnOk l.prog w K mg base CX0 12 fWI _ ["_law_feed_here","_law_names_here","_law_deep"] (lN 3):=(tV FWI bWI mWI B gDR kDR bDR mDR gAT kAT bAT mAT 3).mono (by decide)
 have gOD:FnOk l.prog w K mg base CX0 2 fOD _ ["_law_feed_here","_law_thing"] (n6 3):=qT FOD B FDR bDR mDR (by decide) (by decide)
 have gOE:FnOk l.prog w K mg base CX0 2 fOD _ ["_law_feed_here","_law_thing"] (n6 4):=qT FOD B FDR bDR mDR (by decide) (by decide)
 have gBE:FnOk l.prog w K mg base CX0 19 fBE _ ["_law_feed_here","_law_thing"] (gK 3 16):=nB FBE bBE mBE B FDR bDR mDR (by decide) (by decide) gOD kOD bOD mOD 16
 have gBF:FnOk l.prog w K mg base CX0 21 fBE _ ["_law_feed_here","_law_thing"] (gK 4 18):=nB FBE bBE mBE B FDR bDR mDR (by decide) (by decide) gOE kOD bOD mOD 18
 have gLN:FnOk l.prog w K mg base CX0 1 fLN _ ["_law_thing"] spLN:=xJ FLN B
 have gHD:FnOk l.prog w K mg base CX0 1 fHD _ ["_law_thing","_law_word","_law_many"] spHd:=xL FHD B
 have gLT:FnOk l.prog w K mg base CX0 42 fLT _ ["_law_thing"] (spLT 20):=(xI FLT bLT mLT B gHD kHD bHD mHD gLN kLN bLN mLN 20).mono (by decide)
 have gLM:FnOk l.prog w K mg base CX0 43 fLM _ ["_law_thing"] spLs:=w9 FLM B (PySem.W.mg_none_of X G z_set) gLT kLT bLT mLT gS3 kSQ bSQ mSQ
 have gLW:FnOk l.prog w K mg base CX0 65 fLW _ ["_law_thing"] (spLw 21):=xH FLW bLW mLW B gHD kHD bHD mHD gLN kLN bLN mLN gLM kLM bLM mLM gS3 kSQ bSQ mSQ gLT kLT bLT mLT 21
 have gRT:FnOk l.prog w K mg base CX0 67 fRT _ ["_law_thing"] spRt:=xE FRT B gSM kSM bSM mSM gWS kWS bWS mWS gLM kLM bLM mLM gLW kLW bLW mLW
 exact wa FLA B (tZ FFE B) kFE bFE mFE (qU FNM B FDR bDR mDR) kNM bNM mNM gPA kPA bPA mPA gLS kLS bLS mLS gWI kWI bWI mWI gT5 kTE bTE mTE gBE gBF kBE bBE mBE gRT kRT bRT mRT
theorem walk {l:PySem.W.OpenLaw} {q:Program} {loose:List Str} {XP:(Str→Option Value)→Heap→Prop} {YP:World→Heap→Prop} {d:DefRec} {K:Params→PySem.W.Frag} (hn:l.most=some 63) (hdf:d.params.defaults= [])
 (hY:∀(w:World) (h:Heap),YP w h→(K w.params).In h)
 (F:∀(w:World) (mg:Str→Option Value) (fa:Addr) (h:Heap),(K w.params).In h→h.Ns mainGlobals mg→mg d.name=some (.ref fa)→
  ∃fd:FuncData,(∀(s:Shared) (u:Value),BindsTo s fd ⟨[u],[]⟩ [("_law_script",u)])∧∀base:Heap,(K w.params).In base→base.Ns mainGlobals mg→FnOk l.prog w (K w.params) mg base CX0 68 fa fd ["_law_script"] (n9 (K w.params))):
 PySem.W.WalkO q loose XP YP l.row.toRowW d [] (fun f vs=>PySem.call f vs):=
 L2.walk_of (n:=63) (k:=68) (x:="_law_script") (CX:=fun _=>CX0) (sp:=fun w=>n9 (K w.params)) hn (by decide) hdf ⟨rfl,by decide,by decide,rfl⟩ hY F (fun _ _ a ns hl _ hS=>⟨a,ns,rfl,hS,hl,fun _=>rfl⟩) fun _ _ _ _ _ z=>z
end K05
def PySem.W.Fast.tw4242068644080218584:Unit:=()
def PySem.W.Fast.tw6565570526193332778:Unit:=()
def PySem.W.Fast.tw7072265247192800431:Unit:=()
def PySem.W.Fast.tw6779743283991076203:Unit:=()
def PySem.W.Fast.tw7538879635944010300:Unit:=()
def PySem.W.Fast.tw5476400387458676964:Unit:=()
def PySem.W.Fast.tw12308070566219506370:Unit:=()
def PySem.W.Fast.tw12915670639444982952:Unit:=()
def PySem.W.Fast.tw5700955572385838867:Unit:=()
def PySem.W.Fast.tw6728560890967793462:Unit:=()
def PySem.W.Fast.tw15840080016654642037:Unit:=()
def PySem.W.Fast.tw7755064599458425811:Unit:=()
def PySem.W.Fast.tw13173703171466177029:Unit:=()
def PySem.W.Fast.tw15418415529156985867:Unit:=()
def PySem.W.Fast.tw17182091156042031802:Unit:=()
def PySem.W.Fast.tw8621111096175974847:Unit:=()
def PySem.W.Fast.tw9649265186587901503:Unit:=()
def PySem.W.Fast.tw16600752220315925857:Unit:=()
def PySem.W.Fast.tw4808245827352095397:Unit:=()
def PySem.W.Fast.tw11852351500956299040:Unit:=()
def PySem.W.Fast.tw60174371707291200:Unit:=()
def PySem.W.Fast.tw11061652954878327962:Unit:=()
def PySem.W.Fast.tw10755026893031303179:Unit:=()
def PySem.W.Fast.tw16581617249931082905:Unit:=()
def PySem.W.Fast.tw6471998016460457811:Unit:=()
def PySem.W.Fast.tw8077260872364725701:Unit:=()
def PySem.W.Fast.tw8050493824452058844:Unit:=()
def PySem.W.Fast.tw2197035605931590990:Unit:=()
def PySem.W.Fast.tw2505201746209369967:Unit:=()
def PySem.W.Fast.tw13009174378159749911:Unit:=()
def PySem.W.Fast.tw9334917130702965663:Unit:=()
open PySem PySem.W PyProof.Rows
set_option maxRecDepth 100000 in
set_option maxHeartbeats 0 in
theorem PySem.Challenge.cw_smallword_k05_sums_and_wishes_told_holds : PySem.Challenge.rw_smallword_k05_sums_and_wishes_told.Holds := by
  w_on; o_law; k_head; (case hw => w_witness2)
  k_fill
  refine K05.walk (l := PySem.Challenge.rw_smallword_k05_sums_and_wishes_told) rfl rfl (fun w h Y => PySem.W.kIn_of Y) ?F
  case F =>
    intro w mg fa h KX G hmg
    refine' K05.all_mk KX G hmg ?aC ?iI ?fnI ?lI ?cI ?kI ?aCD ?lCD ?cCD ?kCD ?aFR ?lFR ?cFR ?kFR ?aIW ?lIW ?cIW ?kIW ?aTO ?lTO ?cTO ?kTO ?aNQ ?lNQ ?cNQ ?kNQ ?aFQ ?lFQ ?cFQ ?kFQ ?aTQ ?lTQ ?cTQ ?kTQ ?aCT ?lCT ?cCT ?kCT ?aFE ?lFE ?cFE ?kFE ?aDR ?lDR ?cDR ?kDR ?aGR ?lGR ?cGR ?kGR ?aLO ?lLO ?cLO ?kLO ?aWQ ?lWQ ?cWQ ?kWQ ?aSQ ?lSQ ?cSQ ?kSQ ?aSH ?lSH ?cSH ?kSH ?aNM ?lNM ?cNM ?kNM ?aTE ?lTE ?cTE ?kTE ?aOD ?lOD ?cOD ?kOD ?aBE ?lBE ?cBE ?kBE ?aLN ?lLN ?cLN ?kLN ?aHD ?lHD ?cHD ?kHD ?aLT ?lLT ?cLT ?kLT ?aRT ?lRT ?cRT ?kRT ?aPQ ?lPQ ?cPQ ?kPQ ?aSM ?lSM ?cSM ?kSM ?aAQ ?lAQ ?cAQ ?kAQ ?aWS ?lWS ?cWS ?kWS ?aSL ?lSL ?cSL ?kSL ?aLS ?lLS ?cLS ?kLS ?aPA ?lPA ?cPA ?kPA ?aAT ?lAT ?cAT ?kAT ?aWI ?lWI ?cWI ?kWI ?aLM ?lLM ?cLM ?kLM ?aLW ?lLW ?cLW ?kLW ?aLA ?lLA ?cLA ?kLA ?kC ?lC ?aML ?aMC ?aZ ?lZ ?z_set ?z_abs ?z_len ?z_range ?z_isinstance ?z_tuple ?z_int ?z_bool ?z_list ?z_str ?z_all ?z_any ?z_sum ?z_zip ?z_sorted ?z_ValueError ?ln
    (case aC => k_is); (case iI => k_is); (case fnI => k_is); (case lI => k_is); (case cI => k_is); (case kI => k_is); (case aCD => k_is); (case lCD => k_is)
    (case cCD => k_is); (case kCD => k_is); (case aFR => k_is); (case lFR => k_is); (case cFR => k_is); (case kFR => k_is); (case aIW => k_is); (case lIW => k_is)
    (case cIW => k_is); (case kIW => k_is); (case aTO => k_is); (case lTO => k_is); (case cTO => k_is); (case kTO => k_is); (case aNQ => k_is); (case lNQ => k_is)
    (case cNQ => k_is); (case kNQ => k_is); (case aFQ => k_is); (case lFQ => k_is); (case cFQ => k_is); (case kFQ => k_is); (case aTQ => k_is); (case lTQ => k_is)
    (case cTQ => k_is); (case kTQ => k_is); (case aCT => k_is); (case lCT => k_is); (case cCT => k_is); (case kCT => k_is); (case aFE => k_is); (case lFE => k_is)
    (case cFE => k_is); (case kFE => k_is); (case aDR => k_is); (case lDR => k_is); (case cDR => k_is); (case kDR => k_is); (case aGR => k_is); (case lGR => k_is)
    (case cGR => k_is); (case kGR => k_is); (case aLO => k_is); (case lLO => k_is); (case cLO => k_is); (case kLO => k_is); (case aWQ => k_is); (case lWQ => k_is)
    (case cWQ => k_is); (case kWQ => k_is); (case aSQ => k_is); (case lSQ => k_is); (case cSQ => k_is); (case kSQ => k_is); (case aSH => k_is); (case lSH => k_is)
    (case cSH => k_is); (case kSH => k_is); (case aNM => k_is); (case lNM => k_is); (case cNM => k_is); (case kNM => k_is); (case aTE => k_is); (case lTE => k_is)
    (case cTE => k_is); (case kTE => k_is); (case aOD => k_is); (case lOD => k_is); (case cOD => k_is); (case kOD => k_is); (case aBE => k_is); (case lBE => k_is)
    (case cBE => k_is); (case kBE => k_is); (case aLN => k_is); (case lLN => k_is); (case cLN => k_is); (case kLN => k_is); (case aHD => k_is); (case lHD => k_is)
    (case cHD => k_is); (case kHD => k_is); (case aLT => k_is); (case lLT => k_is); (case cLT => k_is); (case kLT => k_is); (case aRT => k_is); (case lRT => k_is)
    (case cRT => k_is); (case kRT => k_is); (case aPQ => k_is); (case lPQ => k_is); (case cPQ => k_is); (case kPQ => k_is); (case aSM => k_is); (case lSM => k_is)
    (case cSM => k_is); (case kSM => k_is); (case aAQ => k_is); (case lAQ => k_is); (case cAQ => k_is); (case kAQ => k_is); (case aWS => k_is); (case lWS => k_is)
    (case cWS => k_is); (case kWS => k_is); (case aSL => k_is); (case lSL => k_is); (case cSL => k_is); (case kSL => k_is); (case aLS => k_is); (case lLS => k_is)
    (case cLS => k_is); (case kLS => k_is); (case aPA => k_is); (case lPA => k_is); (case cPA => k_is); (case kPA => k_is); (case aAT => k_is); (case lAT => k_is)
    (case cAT => k_is); (case kAT => k_is); (case aWI => k_is); (case lWI => k_is); (case cWI => k_is); (case kWI => k_is); (case aLM => k_is); (case lLM => k_is)
    (case cLM => k_is); (case kLM => k_is); (case aLW => k_is); (case lLW => k_is); (case cLW => k_is); (case kLW => k_is); (case aLA => k_is); (case lLA => k_is)
    (case cLA => k_is); (case kLA => k_is); (case kC => k_is); (case lC => k_is); (case aML => k_is); (case aMC => k_is); (case aZ => k_is); (case lZ => k_is)
    (case z_set => k_is); (case z_abs => k_is); (case z_len => k_is); (case z_range => k_is); (case z_isinstance => k_is); (case z_tuple => k_is); (case z_int => k_is); (case z_bool => k_is)
    (case z_list => k_is); (case z_str => k_is); (case z_all => k_is); (case z_any => k_is); (case z_sum => k_is); (case z_zip => k_is); (case z_sorted => k_is); (case z_ValueError => k_is)
    (case ln => exact ⟨by decide, by decide, by decide, by decide⟩)
