import PyProof.Rows.All
import Wide.All
import OpenK.AllK
import Wide.FinOn
import Lean
import PyProof.EqAt
import PyProof.EqKinds
import PyProof.TupleCall
import KE.KSortTup
import PyProof.NeKinds
import KE.KIntText
import KE.KRevIter
import PyProof.Rows.Range3
import PyProof.StrLawsTight
import PyProof.DictRoadsH
import PyProof.ZipIter
import KE.LcSums
import KE.KListMore
import KE.KDictList
import KE.KDictLaws
import PyProof.WalksEnum
import PyProof.EnumMake
import PyProof.Rows.EnumRows
import PyProof.DictCompW
import PyProof.Rows.SortKeyStr
import PyProof.Rows.SortWalk
import KE.KMinKey
import PyProof.NsDelKeeps
import PyProof.RulesDel
import PyProof.RulesDelMore
import PyProof.DelItemList
import KE.KNestM
import KE.KLam
import PyProof.ListRange
import KE.KFind
import PyProof.Rows.SortLt
import PyProof.SeqI3
import KE.KItemsList
import PySem.Challenge.RW_smallword_k45_many_bounds
set_option Elab.async false
set_option linter.all false
set_option maxRecDepth 100000
set_option maxHeartbeats 8000000
theorem hZq {p:Prop} (h:∀q:Prop,q=p->q):p:=h p rfl
namespace Zz
def yi:=@List.length_map
def yj:=@List.getElem?_eq_getElem
def ym:=@List.mem_cons_of_mem
def yn:=@List.mem_cons_self
def yo:=@List.getElem?_map
def yp:=@Nat.le_refl
def yq:=@List.mem_of_getElem?
def yt:=@List.getElem?_eq_some_iff
def yu:=@List.size_toArray
def yv:=@List.getD_eq_getElem?_getD
def yw:=@Option.map_eq_some_iff
def yx:=@List.mem_cons
def yA:=@Nat.ne_of_lt
def yB:=@List.mem_append_right
def yC:=@Nat.le_trans
def yD:=@List.mem_singleton
def yE:=@Bool.false_ne_true
def yF:=@Option.some.inj
def yG:=@List.map_cons
def yH:=@List.length_cons
def yI:=@List.length_append
def yJ:=@Nat.zero_le
def yK:=@List.map_append
def yL:=@Nat.lt_of_lt_of_le
def yM:=@Nat.lt_of_le_of_lt
def yN:=@List.mem_append
def yO:=@List.take_length
def yP:=@Array.length_toList
def yQ:=@Array.getElem?_toList
def yR:=@List.mem_map
def yS:=@List.length_take
def yT:=@Int.natAbs_mul
def yU:=@Int.gcd_pos_of_ne_zero_right
def yV:=@Array.getElem?_eq_getElem
def yW:=@List.length_filter_le
def yX:=@List.mem_range
def yY:=@List.not_mem_nil
def yZ:=@List.filter_append
def z4:=@Int.fdiv_eq_ediv_of_nonneg
def z5:=@List.getElem_mem
def z6:=@List.cons_append
def z7:=@List.length_range
def z9:=@List.range_succ
def za:=@List.mem_filter
def zb:=@List.getElem?_eq_none
def zc:=@Nat.lt_succ_of_lt
def zd:=@List.pairwise_iff_getElem
def ze:=@List.lookup_cons
def zf:=@List.getElem_of_mem
def zg:=@List.take_zero
def zh:=@Nat.mul_le_mul_right
def zj:=@List.zip_cons_cons
def zk:=@Int.zero_mul
def zm:=@Bool.false_eq_true
def zo:=@List.toList_toArray
def zp:=@Int.toNat_natCast
def zq:=@List.mem_append_left
def zr:=@Int.zero_add
def zt:=@Int.mul_assoc
def zu:=@List.nodup_cons
def zv:=@List.find?_cons
def zw:=@Int.mul_zero
def zx:=@Nat.add_le_add_left
def zy:=@Int.mul_comm
def zz:=@List.nodup_iff_pairwise_ne
def zF:=@Nat.lt_succ_self
def zG:=@List.mem_of_mem_take
def zH:=@List.map_nil
def zI:=@List.map_map
def zJ:=@List.cons.injEq
def zK:=@Int.mul_ediv_cancel_left
def zL:=@Nat.lt_irrefl
def zM:=@Nat.mul_le_mul
def zN:=@Nat.le_add_right
def zO:=@Int.natAbs_neg
def zP:=@Int.mul_pos
def zQ:=@List.ext_getElem?
end Zz
open Zz
namespace L2
open PySem PySem.Spec PyProof.Rows
abbrev Key:=Sum Int Str
noncomputable def fK:Key->Value->Bool
 | .inl k,v=>Value.isInt k v
 | .inr x,v=>Value.isStrOf x v
noncomputable def keyH (w:World):Key->Int
 | .inl k=>hashInt k
 | .inr x=>hashStr w x
theorem aB:∀ {k:Key} {v:Value},fK k v=true->(∃i t,k=Sum.inl i/\v=Value.int i t)\/(∃x t,k=Sum.inr x/\v=Value.str x t)
 | .inl i,v,h=>by
  obtain ⟨t,e⟩:=Value.isInt_shape (k:=i) (v:=v) h;exact .inl ⟨i,t,rfl,e⟩
 | .inr x,v,h=>by
  obtain ⟨t,e⟩:=Value.isStrOf_shape (x:=x) (v:=v) h;exact .inr ⟨x,t,rfl,e⟩
theorem im (i:Int) (t:Tok):fK (.inl i) (.int i t)=true:=by simp [fK,Value.isInt]
theorem ik (x:Str) (t:Tok):fK (.inr x) (.str x t)=true:=by simp [fK,Value.isStrOf]
theorem wP (a b:Int):decide ((Sum.inl a:Key)=Sum.inl b)=(a==b):=by
 by_cases e:a=b
 . subst e;simp
 . have h:¬(Sum.inl a:Key)=Sum.inl b:=fun q=>e (Sum.inl.inj q);rw [decide_eq_false h];exact (beq_eq_false_iff_ne.mpr e).symm
theorem wM (a b:Str):decide ((Sum.inr a:Key)=Sum.inr b)=decide (a=b):=by
 by_cases e:a=b
 . subst e;simp
 . have h:¬(Sum.inr a:Key)=Sum.inr b:=fun q=>e (Sum.inr.inj q);rw [decide_eq_false h,decide_eq_false e]
theorem wO (a:Int) (b:Str):decide ((Sum.inl a:Key)=Sum.inr b)=false:=decide_eq_false (fun q=>nomatch q)
theorem wN (a:Str) (b:Int):decide ((Sum.inr a:Key)=Sum.inl b)=false:=decide_eq_false (fun q=>nomatch q)
noncomputable def aJ (prog:Program) (w:World):PySem.KeyKind prog w Key where
 is:=fK
 hash:=keyH w
 inj:=fun v a b ha hb=>by
  rcases aB ha with ⟨i,t,rfl,rfl⟩|⟨x,t,rfl,rfl⟩
  . rcases aB hb with ⟨j,u,rfl,e⟩|⟨y,u,rfl,e⟩
    . injection e with e1 _;rw [e1]
    . exact nomatch e
  . rcases aB hb with ⟨j,u,rfl,e⟩|⟨y,u,rfl,e⟩
    . exact nomatch e
    . injection e with e1 _;rw [e1]
 byValue:=fun k v h=>by
  rcases aB h with ⟨i,t,rfl,rfl⟩|⟨x,t,rfl,rfl⟩<;>rfl
 pyHash:=fun hv h=>by
  rcases aB hv with ⟨i,t,rfl,rfl⟩|⟨x,t,rfl,rfl⟩
  . exact wpAny_pyHash_int h
  . exact wpAny_pyHash_str h
 eqBool:=fun hu hv h=>by
  rcases aB hu with ⟨i,t,rfl,rfl⟩|⟨x,t,rfl,rfl⟩
  . rcases aB hv with ⟨j,u,rfl,rfl⟩|⟨y,u,rfl,rfl⟩
    . rw [wP] at h;exact wpAny_eqBool_int h
    . rw [wO] at h;exact SeqAt.EqAt.int_str i t y u _ _ _ _ h
  . rcases aB hv with ⟨j,u,rfl,rfl⟩|⟨y,u,rfl,rfl⟩
    . rw [wN] at h;exact SeqAt.EqAt.str_int x t j u _ _ _ _ h
    . rw [wM] at h;exact wpAny_eqBool_str h
 «strs»:=fun k x t v h=>by
  rcases aB h with ⟨i,u,rfl,e⟩|⟨y,u,rfl,e⟩
  . exact nomatch e
  . injection e with e1 _;subst e1;cases v<;>rfl
theorem jO (prog:Program) (w:World) (i:Int) (t:Tok):(aJ prog w).is (.inl i) (.int i t)=true:=im i t
theorem jN (prog:Program) (w:World) (x:Str) (t:Tok):(aJ prog w).is (.inr x) (.str x t)=true:=ik x t
open PySem PySem.Spec PyProof.Rows
inductive V where
 |non|bl (b:Bool)|int (i:Int)|str (x:Str)|byt (b:Array UInt8)|flt (b:UInt64)|ref (a:Addr)|ty (n:String)
 deriving DecidableEq
def RelV:V->Value->Prop
 | .non,u=>u=Value.none
 | .bl b,u=>u=Value.bool b
 | .int i,u=>∃t,u=Value.int i t
 | .str x,u=>∃t,u=Value.str x t
 | .byt b,u=>∃t,u=Value.bytes b t
 | .flt b,u=>∃t,u=Value.float b t
 | .ref a,u=>u=Value.ref a
 | .ty n,u=>u=Value.type n
abbrev Vals:List V->List Value->Prop:=Paired RelV
theorem Vals.length {xs:List V} {us:List Value} (r:Vals xs us):xs.length=us.length:=Paired.length r
theorem Vals.get:∀ {xs:List V} {us:List Value} {i:Nat} {x:V},Vals xs us->xs[i]?=some x->∃u,us[i]?=some u/\RelV x u
 |_,_,_,_, .nil,e=>by simp at e
 |_,_,0,_, .cons r _,e=>by simp at e;subst e;exact ⟨_,rfl,r⟩
 |_,_,i+1,x, .cons _ t,e=>by
  obtain ⟨u,h1,h2⟩:=Vals.get (i:=i) (x:=x) t (by simpa using e)
  exact ⟨u,by simpa using h1,h2⟩
theorem Vals.set {x:V} {u:Value} (r:RelV x u):∀ {xs:List V} {us:List Value} (i:Nat),Vals xs us->Vals (xs.set i x) (us.set i u)
 |_,_,_, .nil=> .nil
 |_,_,0, .cons _ t=> .cons r t
 |_,_,i+1, .cons q t=> .cons q (Vals.set r i t)
theorem Vals.append:∀ {xs ys:List V} {us ws:List Value},Vals xs us->Vals ys ws->Vals (xs++ys) (us++ws)
 |_,_,_,_, .nil,s=>s
 |_,_,_,_, .cons r t,s=> .cons r (Vals.append t s)
theorem Vals.take:∀ {xs:List V} {us:List Value} (n:Nat),Vals xs us->Vals (xs.take n) (us.take n)
 |_,_,0,_=> .nil
 |_,_,_+1, .nil=> .nil
 |_,_,n+1, .cons r t=> .cons r (Vals.take n t)
theorem Vals.drop:∀ {xs:List V} {us:List Value} (n:Nat),Vals xs us->Vals (xs.drop n) (us.drop n)
 |_,_,0,r=>r
 |_,_,_+1, .nil=> .nil
 |_,_,n+1, .cons _ t=>Vals.drop n t
def RelO:Option V->Option Value->Prop
 |some v,some u=>RelV v u
 |none,none=>True
 |_,_=>False
def KV {κ:Type}:List (κ×V)->List (κ×Value)->Prop:=Paired fun (p:κ×V) (q:κ×Value)=>p.1=q.1/\RelV p.2 q.2
noncomputable def kV:Key->V
 | .inl i=> .int i
 | .inr x=> .str x
inductive HO where
 |lst (xs:List V)
 |tup (xs:List V)
 |dK (kvs:List (Key×V))|dT (kvs:List (List Key×V))
 |set (S:Int->Bool) (n:Nat)
 |ins (C dx:Addr) (fs:List (Str×V))
 |own (x:Addr)
 |xd (fs:List (Str×V))
 |met (f x:Addr)
 |rng (lo hi:Int)
 |frz (o:Obj) (u:HO)
 |tbl (ps:Array Value)
 |ext (φ:Heap->Prop)
abbrev Hp:=Addr->Option HO
noncomputable def upd (H:Hp) (a:Addr) (o:HO):Hp:=fun b=>if b=a then some o else H b
theorem a8 {H:Hp} {a:Addr} {o:HO}:upd H a o a=some o:=by unfold upd;rw [if_pos rfl]
theorem ae {H:Hp} {a b:Addr} {o:HO} (h:b≠a):upd H a o b=H b:=by unfold upd;rw [if_neg h]
theorem iF {H:Hp} {a:Addr} {o u:HO}:upd (upd H a o) a u=upd H a u:=by
 funext b;unfold upd;split<;>rfl
theorem aE {H:Hp} {a b:Addr} {o:HO} (h:H a=some o) (h':H b=none):a≠b:=by
 intro e;subst e;rw [h] at h';cases h'
section
variable (P:Program) (w:World)
def ObjOk (H:Hp) (h:Heap) (a:Addr):HO->Prop
 | .lst xs=>xs.length<=sizeLine/\∃(its:List Value) (n:Nat),Vals xs its/\h.get? a=some {cls:= .type "list",data:= .seq its.toArray n}
 | .tup xs=>xs.length<=sizeLine/\∃its:List Value,Vals xs its/\IsTup h a its.toArray
 | .dK kvs=>kvs.length<=sizeLine/\(a==sysModules)=false/\∃vs,KV kvs vs/\h.DictOf (aJ P w) a vs
 | .dT kvs=>kvs.length<=sizeLine/\(a==sysModules)=false/\∃xs:List (List Key×Addr×Value),
  Paired (fun (p:List Key×V) (q:List Key×Addr×Value)=>p.1=q.1/\H q.2.1=some (.tup (p.1.map kV))/\RelV p.2 q.2.2) kvs xs/\
  ∃o es ep,h.get? a=some o/\o.ExactDict/\o.data= .dict es ep/\es.toList=xs.map (entryOfKey (tupleKind (aJ P w)))/\(xs.map (·.1)).Nodup
 | .set S n=>h.SetOf (intKind P w) a S n
 | .ins C dx fs=>H dx=some (.own a)/\fs.length<=1000/\dx≠a/\h.get? a=some (PySem.W.instObj C dx)/\
  ∃mA,h.Ns1 dx mA/\(∀f,RelO (fs.lookup f) (mA f))/\PySem.Within mA (fs.map (·.1))
 | .own _=>∃o,h.get? a=some o
 | .xd fs=>∃mA,h.Ns1 a mA/\∀f,RelO (fs.lookup f) (mA f)
 | .rng lo hi=>∃t u v,h.get? a=some {cls:= .type "range",data:= .fields #[.int lo t, .int hi u, .int 1 v]}
 | .frz o u=>h.get? a=some o/\ObjOk H h a u
 | .tbl ps=>h.get? a=some {cls:= .none,data:= .fields ps}
 | .met f x=>h.get? a=some (PySem.W.methodObj (.ref f) (.ref x))
 | .ext φ=>φ h/\(∃o,h.get? a=some o)/\∀h1 h2:Heap,φ h1->(∀o,h1.get? a=some o->h2.get? a=some o)->φ h2
def HOk (H:Hp) (h:Heap):Prop:=∀a o,H a=some o->ObjOk P w H h a o
end
section
variable {P:Program} {w:World} {H H':Hp} {h h':Heap} {a:Addr} {o:HO}
theorem ObjOk.lt (x:ObjOk P w H h a o):a < h.objs.size:=by
 cases o with
 |lst xs=>obtain ⟨_,_,_,_,e⟩:=x;exact Heap.lt_size e
 |tup xs=>obtain ⟨_,_,_,p⟩:=x;exact p.lt
 |dK kvs=>obtain ⟨_,_,_,_,o,_,_,e,_⟩:=x;exact Heap.lt_size e
 |dT kvs=>obtain ⟨_,_,_,_,o,_,_,e,_⟩:=x;exact Heap.lt_size e
 |set S n=>obtain ⟨o,_,_,_,e,_⟩:=x;exact Heap.lt_size e
 |ins C dx fs=>obtain ⟨_,_,_,e,_⟩:=x;exact Heap.lt_size e
 |own y=>obtain ⟨_,e⟩:=x;exact Heap.lt_size e
 |xd fs=>obtain ⟨_,⟨_,_,_,e,_⟩,_⟩:=x;exact Heap.lt_size e
 |rng lo hi=>obtain ⟨_,_,_,e⟩:=x;exact Heap.lt_size e
 |frz ob u=>obtain ⟨e,_⟩:=x;exact Heap.lt_size e
 |tbl ps=>exact Heap.lt_size (show h.get? a=some _ from x)
 |met f y=>exact Heap.lt_size (show h.get? a=some _ from x)
 |ext φ=>obtain ⟨_,⟨_,e⟩,_⟩:=x;exact Heap.lt_size e
theorem Paired.mapP {α β:Type} {F G:α->β->Prop}:∀ {l₁:List α} {l₂:List β},Paired F l₁ l₂->(∀a b,F a b->G a b)->Paired G l₁ l₂
 |_,_, .nil,_=> .nil
 |_,_, .cons r t,f=> .cons (f _ _ r) (Paired.mapP t f)
theorem Paired.imp' {α β:Type} {F G:α->β->Prop} (f:∀a b,F a b->G a b) {l₁:List α} {l₂:List β} (r:Paired F l₁ l₂):Paired G l₁ l₂:=Paired.mapP r f
theorem ObjOk.stay (x:ObjOk P w H h a o) (k:∀b u,(b=a\/H b=some (.own a))->h.get? b=some u->h'.get? b=some u)
 (ho:∀b,H b=some (.own a)->H' b=some (.own a)) (ht:∀b xs,H b=some (.tup xs)->H' b=some (.tup xs)):ObjOk P w H' h' a o:=by
 induction o with
 |lst xs=>obtain ⟨z,its,n,r,e⟩:=x;exact ⟨z,its,n,r,k _ _ (.inl rfl) e⟩
 |tup xs=>obtain ⟨z,its,r,ob,e,c⟩:=x;exact ⟨z,its,r,ob,k _ _ (.inl rfl) e,c⟩
 |dK kvs=>obtain ⟨z,y,vs,r,ob,es,ep,e,c⟩:=x;exact ⟨z,y,vs,r,ob,es,ep,k _ _ (.inl rfl) e,c⟩
 |dT kvs=>
  refine hZq fun q_ e_=> ?_;obtain ⟨z,y,xs,r,ob,es,ep,e,c⟩:=x;subst e_;exact ⟨z,y,xs,Paired.mapP r fun p q z=>⟨z.1,ht _ _ z.2.1,z.2.2⟩,ob,es,ep,k _ _ (.inl rfl) e,c⟩
 |set S n=>obtain ⟨ob,es,ep,t,e,c⟩:=x;exact ⟨ob,es,ep,t,k _ _ (.inl rfl) e,c⟩
 |ins C dx fs=>
  refine hZq fun q_ e_=> ?_;obtain ⟨d,z,ne,e,mA,⟨od,es,ep,e2,c⟩,r⟩:=x;subst e_;exact ⟨ho _ d,z,ne,k _ _ (.inl rfl) e,mA,⟨od,es,ep,k _ _ (.inr d) e2,c⟩,r⟩
 |own y=>obtain ⟨ob,e⟩:=x;exact ⟨ob,k _ _ (.inl rfl) e⟩
 |xd fs=>obtain ⟨mA,⟨od,es,ep,e,c⟩,r⟩:=x;exact ⟨mA,⟨od,es,ep,k _ _ (.inl rfl) e,c⟩,r⟩
 |rng lo hi=>obtain ⟨t,u,v,e⟩:=x;exact ⟨t,u,v,k _ _ (.inl rfl) e⟩
 |frz ob u ih=>obtain ⟨e,q⟩:=x;exact ⟨k _ _ (.inl rfl) e,ih q⟩
 |tbl ps=>
  have e:h.get? a=some {cls:= .none,data:= .fields ps}:=x;show h'.get? a=some {cls:= .none,data:= .fields ps};exact k a _ (.inl rfl) e
 |met f y=>
  have e:h.get? a=some (PySem.W.methodObj (.ref f) (.ref y)):=x;show h'.get? a=some (PySem.W.methodObj (.ref f) (.ref y));exact k a _ (.inl rfl) e
 |ext φ=>obtain ⟨p,⟨o,e⟩,st⟩:=x;exact ⟨st _ _ p fun o q=>k _ _ (.inl rfl) q,⟨o,k _ _ (.inl rfl) e⟩,st⟩
theorem HOk.lt (x:HOk P w H h) (e:H a=some o):a < h.objs.size:=(x a o e).lt
theorem HOk.fresh (x:HOk P w H h) (e:h.objs.size<=a):H a=none:=by
 cases q:H a with
 |none=>rfl
 |some u=>exact absurd (yL (x.lt q) e) (zL _)
theorem HOk.kept (x:HOk P w H h) (k:∀b u,h.get? b=some u->h'.get? b=some u):HOk P w H h':=fun a o e=>
 (x a o e).stay (fun b u _ q=>k b u q) (fun _ q=>q) fun _ _ q=>q
theorem HOk.laid (x:HOk P w H h) (k:∀b u,h.get? b=some u->h'.get? b=some u) (hp:h.objs.size<=a) (new:ObjOk P w (upd H a o) h' a o):HOk P w (upd H a o) h':=fun b u e=>by
 have hn:=x.fresh hp;by_cases hb:b=a
 . subst hb;rw [a8] at e;cases e;exact new
 . rw [ae hb] at e;exact (x b u e).stay (fun c v _ q=>k c v q) (fun c q=>by rw [ae (aE q hn)];exact q) fun c xs q=>by rw [ae (aE q hn)];exact q
end
def Rd (H:Hp) (a:Addr) (u:HO):Prop:=H a=some u\/∃o,H a=some (.frz o u)
theorem Rd.of {H:Hp} {a:Addr} {u:HO} (h:H a=some u):Rd H a u:= .inl h
theorem Rd.ok {P:Program} {w:World} {H:Hp} {h:Heap} {a:Addr} {u:HO} (r:Rd H a u) (x:HOk P w H h):ObjOk P w H h a u:=by
 rcases r with r|⟨o,r⟩
 . exact x a u r
 . obtain ⟨_,q⟩:=x a _ r;exact q
def Mut:Option HO->Prop
 |some (.lst _)=>True
 |some (.dK _)=>True
 |some (.dT _)=>True
 |some (.set _ _)=>True
 |some (.ins _ _ _)=>True
 |some (.ext _)=>True
 |_=>False
section
variable {P:Program} {w:World} {H:Hp} {h h':Heap} {x e:Addr} {o':HO}
theorem HOk.write (ok:HOk P w H h) (mu:Mut (H x)) (he:e=x\/H e=some (.own x)) (k:∀b u,b≠e->h.get? b=some u->h'.get? b=some u) (heo:∃u,h'.get? e=some u)
 (new:ObjOk P w (upd H x o') h' x o'):HOk P w (upd H x o') h':=fun b u q=>by
 have nown:∀c y,H c=some (.own y)->c≠x:=fun c y r z=>by subst z;rw [r] at mu;exact mu
 have ntup:∀c xs,H c=some (.tup xs)->c≠x:=fun c xs r z=>by subst z;rw [r] at mu;exact mu
 by_cases hb:b=x
 . subst hb;rw [a8] at q;cases q;exact new
 . rw [ae hb] at q;by_cases hbe:b=e
   . have q':H b=some (.own x):=by
      rcases he with z|z
      . exact absurd (hbe.trans z) hb
      . rw [hbe];exact z
     rw [q] at q';cases q';obtain ⟨v,hv⟩:=heo;exact ⟨v,by rw [hbe];exact hv⟩
   . refine (ok b u q).stay (fun c v hc r=>k c v ?_ r) (fun c r=>by rw [ae (nown c b r)];exact r) fun c xs r=>by rw [ae (ntup c xs r)];exact r
     rcases hc with rfl|hc
     . exact hbe
     . rintro rfl;rcases he with z|z
       . exact nown c b hc z
       . rw [hc] at z;cases z;exact hb rfl
end
def Idl (x:Option HO):Prop:=x=none\/∃xs,x=some (.tup xs)
theorem Idl.no {x:Option HO} (h:x=none):Idl x:= .inl h
structure Un (fs ex:List Addr) (H H':Hp) (h h':Heap):Prop where
 keep:∀b o,h.get? b=some o->Idl (H b)->b∉fs->b∉ex->h'.get? b=some o
 slot:∀b o,h.get? b=some o->H b=none->b∈fs->b∉ex->∃sl,h'.get? b=some {o with slots:=sl}
 free:∀b o,h.get? b=some o->H b=none->b∉ex->H' b=none
 there:∀b o,h.get? b=some o->b∉ex->∃o',h'.get? b=some o'
 tups:∀b xs,H b=some (.tup xs)->H' b=some (.tup xs)
 frzs:∀b o u,H b=some (.frz o u)->H' b=some (.frz o u)
 tbls:∀b ps,H b=some (.tbl ps)->∃more,H' b=some (.tbl (ps++more))
section
variable {fs fs' ex ex':List Addr} {H H1 H2:Hp} {h h1 h2 h':Heap} {a x e:Addr} {o:HO}
theorem Un.any (u:Un fs ex H H1 h h1) {b:Addr} {ob:Obj} (q:h.get? b=some ob) (n:H b=none) (hx:b∉ex):∃sl,h1.get? b=some {ob with slots:=sl}:=by
 by_cases hb:b∈fs
 . exact u.slot b ob q n hb hx
 . exact ⟨ob.slots,u.keep b ob q (.inl n) hb hx⟩
theorem Un.idl (u:Un fs ex H H1 h h1) {b:Addr} {ob:Obj} (q:h.get? b=some ob) (n:Idl (H b)) (hx:b∉ex):Idl (H1 b):=by
 rcases n with n|⟨xs,n⟩
 . exact .inl (u.free b ob q n hx)
 . exact .inr ⟨xs,u.tups b xs n⟩
theorem Un.trans (a:Un fs ex H H1 h h1) (b:Un fs ex H1 H2 h1 h2):Un fs ex H H2 h h2 where
 keep:=fun c ob q n hc hx=>b.keep c ob (a.keep c ob q n hc hx) (a.idl q n hx) hc hx
 slot:=fun c ob q n hc hx=>by
  obtain ⟨sl,e1⟩:=a.slot c ob q n hc hx;obtain ⟨sl',e2⟩:=b.slot c _ e1 (a.free c ob q n hx) hc hx;exact ⟨sl',e2⟩
 free:=fun c ob q n hx=>by
  obtain ⟨o',e1⟩:=a.there c ob q hx;exact b.free c o' e1 (a.free c ob q n hx) hx
 there:=fun c ob q hx=>by
  obtain ⟨o',e1⟩:=a.there c ob q hx;exact b.there c o' e1 hx
 tups:=fun c xs q=>b.tups c xs (a.tups c xs q)
 frzs:=fun c ob xs q=>b.frzs c ob xs (a.frzs c ob xs q)
 tbls:=fun c ps q=>by
  obtain ⟨m1,e1⟩:=a.tbls c ps q;obtain ⟨m2,e2⟩:=b.tbls c _ e1;exact ⟨m1++m2,by rw [e2,Array.append_assoc]⟩
theorem Un.kept (k:∀b u,h.get? b=some u->h'.get? b=some u):Un fs ex H H h h':=
 ⟨fun b ob q _ _ _=>k b ob q,fun b ob q _ _ _=>⟨ob.slots,k b ob q⟩,fun _ _ _ n _=>n,fun b ob q _=>⟨ob,k b ob q⟩,fun _ _ q=>q,fun _ _ _ q=>q,fun _ ps q=>⟨#[],by rw [q];simp⟩⟩
theorem Un.refl:Un fs ex H H h h:=Un.kept fun _ _ q=>q
theorem Un.laid (k:∀b u,h.get? b=some u->h'.get? b=some u) (hp:h.objs.size<=a) (hn:H a=none):Un fs ex H (upd H a o) h h' where
 keep:=fun b u q _ _ _=>k b u q
 slot:=fun b u q _ _ _=>⟨u.slots,k b u q⟩
 free:=fun b u q n _=>by rw [ae (yA (yL (Heap.lt_size q) hp))];exact n
 there:=fun b u q _=>⟨u,k b u q⟩
 tups:=fun b xs q=>by rw [ae (aE q hn)];exact q
 frzs:=fun b u xs q=>by rw [ae (aE q hn)];exact q
 tbls:=fun b ps q=>⟨#[],by rw [ae (aE q hn),q];simp⟩
theorem Un.write (mu:Mut (H x)) (he:e=x\/H e=some (.own x)) (k:∀b u,b≠e->h.get? b=some u->h'.get? b=some u) (heo:∃u,h'.get? e=some u):Un fs ex H (upd H x o) h h':=by
 have hx:∀b,H b=none->b≠x:=fun b n z=>by subst z;rw [n] at mu;exact mu
 have hb:∀b,H b=none->b≠e:=fun b n z=>by
  subst z;rcases he with r|r
  . exact hx b n r
  . rw [n] at r;cases r
 have hi:∀b,Idl (H b)->b≠e:=fun b n z=>by
  rcases n with n|⟨xs,n⟩
  . exact hb b n z
  . subst z;rcases he with r|r
    . subst r;rw [n] at mu;exact mu
    . rw [n] at r;cases r
 have hm:∀b u,H b=some u->¬Mut (some u)->b≠x:=fun b u q nm z=>by subst z;rw [q] at mu;exact nm mu
 refine ⟨fun b u q n _ _=>k b u (hi b n) q,fun b u q n _ _=>⟨u.slots,k b u (hb b n) q⟩,fun b u q n _=>by rw [ae (hx b n)];exact n,fun b u q _=> ?_,
  fun b xs q=>by rw [ae (hm b _ q fun z=>z)];exact q,fun b u xs q=>by rw [ae (hm b _ q fun z=>z)];exact q,fun b ps q=>⟨#[],by rw [ae (hm b _ q fun z=>z),q];simp⟩⟩
 by_cases hbe:b=e
 . subst hbe;exact heo
 . exact ⟨u,k b u hbe q⟩
end
noncomputable def trk (h:Heap) (H:Hp):List Addr:=(List.range h.objs.size).filter fun a=>(H a).isSome
noncomputable def hidT (h:Heap) (H:Hp):Heap:=PySem.W.hideAll h (trk h H)
theorem oB (h:Heap) (H:Hp):(hidT h H).objs.size=h.objs.size:=PySem.W.hideAll_size _ _
theorem rZ {h:Heap} {H:Hp} {b:Addr} {o:Obj} (e:h.get? b=some o) (n:H b=none):(hidT h H).get? b=some o:=
 PySem.W.hideAll_get _ e fun hm=>by
  have q:(H b).isSome=true:=(za.mp hm).2;rw [n] at q;simp at q
theorem mw {h:Heap} {H:Hp} {b:Addr} {o:Obj} (e:(hidT h H).get? b=some o):h.get? b=some o/\H b=none:=by
 have e':h.get? b=some o:=PySem.W.of_hideAll (trk h H) e;refine ⟨e',?_⟩
 cases q:H b with
 |none=>rfl
 |some x=>
  have hm:b∈trk h H:=za.mpr ⟨yX.mpr (Heap.lt_size e'),by simp [q]⟩
  have z:(hidT h H).get? b=none:=PySem.W.hideAll_none (trk h H) hm;rw [z] at e;cases e
noncomputable def uM (g h:Heap) (L:Addr):List (Addr×Obj):=(List.range h.objs.size).filterMap fun a=>if a=L\/(g.get? a).isSome=true then none else (h.get? a).map fun o=>(a,o)
noncomputable def rest (g h:Heap) (L d:Addr):List (Addr×Obj):=(uM g h L).filter fun p=>decide (p.1≠d)
open PySem PySem.Spec PyProof.Rows
structure Mod (K:PySem.W.Frag) (mg:Str->Option Value) (base:Heap):Prop where
 kin:K.In base
 glob:base.Ns mainGlobals mg
 blt:∃mb,base.Ns builtinsNs mb/\∀x:Str,x≠"__name__"->mb x=bootBuiltins x
 nolimit:base.NoLimit
structure Cx where
 prog:Program
 w:World
 K:PySem.W.Frag
 mg:Str->Option Value
 base:Heap
 A:Around
 N:List Str
 s₀:Shared
 H₀:Hp
 env:Env
 outer:List Env
 stack:List Env
 ex:List Addr
 fn:Str->Bool
 calm:Bool
 pn:List (Addr×Obj)
 xe:Value->Shared->Prop
noncomputable def frs (l:List Env):List Addr:=l.filterMap (·.frame)
noncomputable abbrev Cx.fs (X:Cx):List Addr:=frs X.outer
def Vis (sc:Scope) (x:Str):Prop:=sc.names.lookup x=some .local\/sc.names.lookup x=some .cell\/sc.names.lookup x=some .free
noncomputable def visB (sc:Scope) (x:Str):Bool:=(sc.names.lookup x).any fun k=>match k with|.local=>true|.cell=>true|.free=>true|_=>false
theorem visB_ok {sc:Scope} {x:Str} (h:visB sc x=true):Vis sc x:=by
 unfold visB at h
 cases e:sc.names.lookup x with
 |none=>rw [e] at h;cases h
 |some k=>
  rw [e] at h
  cases k with
  |«local»=>exact .inl e
  |cell=>exact .inr (.inl e)
  |free=>exact .inr (.inr e)
  |_=>cases h
def Loc (sc:Scope) (x:Str):Prop:=sc.names.lookup x=some .local\/sc.names.lookup x=some .cell
def Look (env:Env) (h:Heap) (m:Str->Option Value) (x:Str) (u:Value):Prop:=
 (env.kindOf x=some .local/\m x=some u)\/((env.kindOf x=some .cell\/env.kindOf x=some .free)/\∃c,env.cells.lookup x=some c/\h.IsCell c (some u))
structure Cx.Ok (X:Cx):Prop where
 mod:Mod X.K X.mg X.base
 kind:X.env.scope.kind= .function
 glob:X.env.globals=mainGlobals
 blt:X.env.builtins=builtinsNs
 above:X.s₀.heap.objs.size<=X.env.locals
 inj:∀x y c,X.env.cells.lookup x=some c->X.env.cells.lookup y=some c->x=y
 has:∀x,(X.env.kindOf x=some .cell\/X.env.kindOf x=some .free)->∃c,X.env.cells.lookup x=some c
 cab:∀x c,X.fn x=true->X.env.cells.lookup x=some c->X.s₀.heap.objs.size<=c
 hd:X.calm=true->X.A.handled=none
 frames:X.A.frames=some X.stack
 stk:X.stack=X.outer\/(X.stack=X.env::X.outer/\X.env.frame=some X.env.locals)
 exf:∀b∈X.ex,b≠X.env.locals/\∀x c,X.env.cells.lookup x=some c->c≠b
 bs:∀b o,X.base.get? b=some o->X.s₀.heap.get? b=some o/\Idl (X.H₀ b)
 bsz:X.base.objs.size<=X.s₀.heap.objs.size
 noex:∀b o,X.base.get? b=some o->b∉X.ex
 exfs:∀b∈X.ex,b∉X.fs
 funs:X.s₀.heap.FunFrames X.base X.outer
 frf:∀b∈X.fs,X.H₀ b=none
structure Inv (X:Cx) (pins:List (Addr×Obj)) (σ:List (Option V)) (H:Hp) (s:Shared):Prop where
 ok:X.Ok
 os:s.os=X.s₀.os
 bare:AllBare s.gens
 base:Un X.fs X.ex X.H₀ H X.s₀.heap s.heap
 loc:∃m,s.heap.Ns X.env.locals m/\∀(i:Nat) (x:Str) (v:V),X.N[i]?=some x->σ[i]?=some (some v)->Vis X.env.scope x->∃u,RelV v u/\Look X.env s.heap m x u
 cell:∀x c,X.env.cells.lookup x=some c->∃v,s.heap.IsCell c v
 free:H X.env.locals=none
 freeC:∀x c,X.env.cells.lookup x=some c->H c=none
 pin:∀p∈X.pn++pins,s.heap.get? p.1=some p.2/\H p.1=none/\p.1≠X.env.locals/\p.1∉X.fs/\∀v,p.2.data≠ .cell v
 hok:HOk X.prog X.w H s.heap
 len:σ.length=X.N.length
section
variable {X:Cx} {pins:List (Addr×Obj)} {σ:List (Option V)} {H H':Hp} {s:Shared} {h':Heap}
theorem Cx.Ok.nofr (ok:X.Ok) {b:Addr} {o:Obj} (e:X.base.get? b=some o):b∉X.fs:=fun hb=>by
 have:=(ok.funs.mem hb).1;rw [e] at this;cases this
theorem Inv.bs (I:Inv X pins σ H s):∀b o,X.base.get? b=some o->s.heap.get? b=some o/\Idl (H b):=fun b o e=>
 ⟨I.base.keep b o (I.ok.bs b o e).1 (I.ok.bs b o e).2 (I.ok.nofr e) (I.ok.noex b o e),I.base.idl (I.ok.bs b o e).1 (I.ok.bs b o e).2 (I.ok.noex b o e)⟩
theorem Inv.bk (I:Inv X pins σ H s):∀b o,X.base.get? b=some o->s.heap.get? b=some o:=fun b o e=>(I.bs b o e).1
theorem Inv.mod (I:Inv X pins σ H s):Mod X.K X.mg X.base:=I.ok.mod
theorem Inv.kIn (I:Inv X pins σ H s):X.K.In s.heap:=I.ok.mod.kin.keeps I.bk
theorem Inv.nolimit (I:Inv X pins σ H s):s.heap.NoLimit:=I.ok.mod.nolimit.keeps I.bk
theorem Inv.fr (I:Inv X pins σ H s):∃m,Fr X.base X.env.locals s.heap m:=
 let ⟨m,hn,_⟩:=I.loc
 ⟨m,hn,I.bk,yC I.ok.bsz I.ok.above⟩
theorem Inv.lt (I:Inv X pins σ H s):X.env.locals < s.heap.objs.size:=let ⟨_,hn,_⟩:=I.loc;hn.lt
theorem Inv.sz (I:Inv X pins σ H s):X.s₀.heap.objs.size<=s.heap.objs.size:=yC I.ok.above (Nat.le_of_lt I.lt)
theorem Inv.nofs (I:Inv X pins σ H s) {a:Addr} (h:s.heap.objs.size<=a):a∉X.fs:=fun hb=>by
 obtain ⟨_,o,ho,_⟩:=I.ok.funs.mem hb;exact absurd (yL (Heap.lt_size ho) (yC I.sz h)) (zL _)
theorem Inv.cne (I:Inv X pins σ H s):∀x c,X.env.cells.lookup x=some c->c≠X.env.locals:=fun x c e z=>by
 obtain ⟨v,o,ho,hd⟩:=I.cell x c e;obtain ⟨m,⟨o',es,ep,ho',hd',_⟩,_⟩:=I.loc;rw [z,ho'] at ho;cases ho;rw [hd'] at hd;cases hd
theorem Inv.funs (I:Inv X pins σ H s):s.heap.FunFrames X.base X.outer:=by
 have all:∀(l:List Env),(∀b∈frs l,b∈X.fs)->X.s₀.heap.FunFrames X.base l->s.heap.FunFrames X.base l:=by
  intro l
  induction l with
  |nil=>intro _ _;trivial
  |cons env r ih=>
   intro hs hl;obtain ⟨hk,⟨L,o,hf,hn,ho,hd⟩,hr⟩:=hl;have hL:L∈X.fs:=hs L (by unfold frs;rw [List.filterMap_cons,hf];exact yn)
   obtain ⟨sl,e⟩:=I.base.slot L o ho (I.ok.frf L hL) hL fun z=>I.ok.exfs L z hL;exact ⟨hk,⟨L,_,hf,hn,e,hd⟩,ih (fun b hb=>hs b (by unfold frs;rw [List.filterMap_cons,hf];exact ym _ hb)) hr⟩
 exact all X.outer (fun _ hb=>hb) I.ok.funs
theorem Inv.stack (I:Inv X pins σ H s):s.heap.FunFrames X.base X.stack:=by
 rcases I.ok.stk with e|⟨e,hf⟩
 . rw [e];exact I.funs
 . rw [e];obtain ⟨m,hn,_⟩:=I.loc;refine .cons (by rw [I.ok.kind];decide) hf hn ?_ I.funs
   exact Heap.get?_none_of_le (yC I.ok.bsz I.ok.above)
theorem Inv.stkSub (I:Inv X pins σ H s):∀b∈frs X.stack,b∈X.env.locals::X.fs:=fun b hb=>by
 rcases I.ok.stk with e|⟨e,hf⟩
 . rw [e] at hb;exact ym _ hb
 . rw [e] at hb;unfold frs at hb;rw [List.filterMap_cons,hf] at hb;exact hb
theorem Inv.stkFree (I:Inv X pins σ H s):∀b∈frs X.stack,H b=none:=fun b hb=>by
 rcases yx.mp (I.stkSub b hb) with e|hb
 . rw [e];exact I.free
 . obtain ⟨_,o,ho,_⟩:=I.ok.funs.mem hb;exact I.base.free b o ho (I.ok.frf b hb) fun z=>I.ok.exfs b z hb
theorem Inv.step {g':Array GenState} {t':Nat} {d':Drawn} {ch:List Addr} (I:Inv X pins σ H s)
 (hch:∀b∈ch,(b∈X.ex\/X.s₀.heap.objs.size<=b)/\b≠X.env.locals/\(∀x c,X.env.cells.lookup x=some c->c≠b)/\∀p∈X.pn++pins,p.1≠b)
 (keep:∀b o,b≠X.env.locals->b∉X.fs->b∉ch->s.heap.get? b=some o->Idl (H b)->h'.get? b=some o)
 (slot:∀b o,b≠X.env.locals->b∈X.fs->b∉ch->s.heap.get? b=some o->H b=none->∃sl,h'.get? b=some {o with slots:=sl}) (free:∀b o,b∉ch->s.heap.get? b=some o->H b=none->H' b=none)
 (there:∀b o,b∉ch->s.heap.get? b=some o->∃o',h'.get? b=some o')
 (tups:∀b xs,H b=some (.tup xs)->H' b=some (.tup xs)) (frzs:∀b o u,H b=some (.frz o u)->H' b=some (.frz o u)) (tbls:∀b ps,H b=some (.tbl ps)->∃more,H' b=some (.tbl (ps++more)))
 (ns:∀m,s.heap.Ns X.env.locals m->h'.Ns X.env.locals m) (hok:HOk X.prog X.w H' h') (hg:AllBare g'):
 Inv X pins σ H' {s with heap:=h',gens:=g',drawn:=d',toks:=t'}:=by
 have neL:∀b o,X.s₀.heap.get? b=some o->b≠X.env.locals:=fun b o e=>yA (yL (Heap.lt_size e) I.ok.above)
 have neC:∀b o,X.s₀.heap.get? b=some o->b∉X.ex->b∉ch:=fun b o e hx hb=>by
  rcases (hch b hb).1 with z|z
  . exact hx z
  . exact absurd (yL (Heap.lt_size e) z) (zL _)
 have cellK:∀x c,X.env.cells.lookup x=some c->∀v,s.heap.IsCell c v->h'.IsCell c v:=fun x c e v ⟨o,ho,hd⟩=>by
  have nch:c∉ch:=fun z=>(hch c z).2.2.1 x c e rfl;by_cases hc:c∈X.fs
  . obtain ⟨sl,q⟩:=slot c o (I.cne x c e) hc nch ho (I.freeC x c e);exact ⟨_,q,hd⟩
  . exact ⟨o,keep c o (I.cne x c e) hc nch ho (.inl (I.freeC x c e)),hd⟩
 refine ⟨I.ok,I.os,hg,⟨fun b o e n hb hx=> ?_,fun b o e n hb hx=> ?_,fun b o e n hx=> ?_,fun b o e hx=> ?_,fun b xs e=>tups b xs (I.base.tups b xs e),fun b o xs e=>frzs b o xs (I.base.frzs b o xs e),fun b ps e=> ?_⟩,?_,fun x c e=> ?_,?_,fun x c e=> ?_,fun p hp=> ?_,hok,I.len⟩
 . exact keep b o (neL b o e) hb (neC b o e hx) (I.base.keep b o e n hb hx) (I.base.idl e n hx)
 . obtain ⟨sl,e1⟩:=I.base.slot b o e n hb hx;obtain ⟨sl',e2⟩:=slot b _ (neL b o e) hb (neC b o e hx) e1 (I.base.free b o e n hx);exact ⟨sl',e2⟩
 . obtain ⟨o',e1⟩:=I.base.there b o e hx;exact free b o' (neC b o e hx) e1 (I.base.free b o e n hx)
 . obtain ⟨o',e1⟩:=I.base.there b o e hx;exact there b o' (neC b o e hx) e1
 . obtain ⟨m1,e1⟩:=I.base.tbls b ps e;obtain ⟨m2,e2⟩:=tbls b _ e1;exact ⟨m1++m2,by rw [e2,Array.append_assoc]⟩
 . obtain ⟨m,hn,hl⟩:=I.loc;refine ⟨m,ns m hn,fun i x v e1 e2 e3=> ?_⟩;obtain ⟨u,r,l⟩:=hl i x v e1 e2 e3;refine ⟨u,r,?_⟩;rcases l with l|⟨k,c,e,z⟩
   . exact .inl l
   . exact .inr ⟨k,c,e,cellK x c e _ z⟩
 . obtain ⟨v,z⟩:=I.cell x c e;exact ⟨v,cellK x c e v z⟩
 . obtain ⟨m,⟨o,_,_,ho,_⟩,_⟩:=I.loc;exact free _ o (fun z=>(hch _ z).2.1 rfl) ho I.free
 . obtain ⟨v,o,ho,hd⟩:=I.cell x c e;exact free c o (fun z=>(hch c z).2.2.1 x c e rfl) ho (I.freeC x c e)
 . obtain ⟨e,n,ne,nf,d⟩:=I.pin p hp;have nch:p.1∉ch:=fun z=>(hch p.1 z).2.2.2 p hp rfl;exact ⟨keep p.1 p.2 ne nf nch e (.inl n),free p.1 p.2 nch e n,ne,nf,d⟩
theorem Inv.un {t':Nat} (I:Inv X pins σ H s) (u:Un X.fs [] H H' s.heap h') (hok:HOk X.prog X.w H' h'):Inv X pins σ H' {s with heap:=h',toks:=t'}:=by
 obtain ⟨m,⟨o,es,ep,ho,r⟩,_⟩:=id I.loc;obtain ⟨sl,hL⟩:=u.any ho I.free (by simp)
 exact I.step (g':=s.gens) (d':=s.drawn) (ch:= []) (fun _ z=>nomatch z) (fun b o _ hb _ e n=>u.keep b o e n hb (by simp)) (fun b o _ hb _ e n=>u.slot b o e n hb (by simp)) (fun b o _ e n=>u.free b o e n (by simp)) (fun b o _ e=>u.there b o e (by simp)) u.tups u.frzs u.tbls (fun m' hm=>by
  obtain ⟨o',es',ep',ho',r'⟩:=hm;rw [ho] at ho';cases ho'
  exact ⟨_,es',ep',hL,r'⟩) hok I.bare
theorem Inv.call {g':Array GenState} {t':Nat} {d':Drawn} {ch:List Addr} (I:Inv X pins σ H s) (u:Un (frs X.stack) ch H H' s.heap h') (hok:HOk X.prog X.w H' h') (hg:AllBare g')
 (hch:∀b∈ch,(b∈X.ex\/X.s₀.heap.objs.size<=b)/\b≠X.env.locals/\(∀x c,X.env.cells.lookup x=some c->c≠b)/\∀p∈X.pn++pins,p.1≠b):
 Inv X pins σ H' {s with heap:=h',gens:=g',drawn:=d',toks:=t'}:=by
 obtain ⟨m,⟨o,es,ep,ho,r⟩,_⟩:=id I.loc;obtain ⟨sl,hL⟩:=u.any ho I.free fun z=>(hch _ z).2.1 rfl
 exact I.step (ch:=ch) hch (fun b o hL hb hc e n=>u.keep b o e n (fun z=>(yx.mp (I.stkSub b z)).elim hL hb) hc) (fun b o _ _ hc e n=>u.any e n hc) (fun b o hc e n=>u.free b o e n hc) (fun b o hc e=>u.there b o e hc) u.tups u.frzs u.tbls (fun m' hm=>by
  obtain ⟨o',es',ep',ho',r'⟩:=hm;rw [ho] at ho';cases ho'
  exact ⟨_,es',ep',hL,r'⟩) hok hg
theorem Inv.turned {t':Nat} {it:Addr} (I:Inv X pins σ H s) (k:∀b o,b≠it->s.heap.get? b=some o->h'.get? b=some o) (hn:H it=none) (hL:it≠X.env.locals)
 (h1:it∈X.ex\/X.s₀.heap.objs.size<=it) (h2:∀x c,X.env.cells.lookup x=some c->c≠it) (h3:∀p∈X.pn++pins,p.1≠it):Inv X pins σ H {s with heap:=h',toks:=t'}:=by
 have nit:∀b u,H b=some u->b≠it:=fun b u e z=>by rw [z,hn] at e;cases e
 refine I.step (g':=s.gens) (d':=s.drawn) (ch:= [it]) (fun b hb=> ?_) (fun b o _ _ hc e _=>k b o (fun z=>hc (by simp [z])) e) (fun b o _ _ hc e _=>⟨o.slots,k b o (fun z=>hc (by simp [z])) e⟩) (fun _ _ _ _ n=>n)
  (fun b o hc e=>⟨o,k b o (fun z=>hc (by simp [z])) e⟩) (fun _ _ e=>e) (fun _ _ _ e=>e) (fun b ps e=>⟨#[],by rw [e];simp⟩) (fun m hm=> ?_) (fun b u e=> ?_) I.bare
 . have e:b=it:=by simpa using hb
   subst e;exact ⟨h1,hL,h2,h3⟩
 . obtain ⟨o,es,ep,ho,r⟩:=hm;exact ⟨o,es,ep,k _ o (Ne.symm hL) ho,r⟩
 . refine (I.hok b u e).stay (fun c v hc q=>k c v ?_ q) (fun _ q=>q) fun _ _ q=>q;rcases hc with z|z
   . rw [z];exact nit b u e
   . exact nit c _ z
theorem Inv.tok (I:Inv X pins σ H s) (t:Nat):Inv X pins σ H {s with toks:=t}:=I.un (h':=s.heap) (t':=t) Un.refl I.hok
theorem Inv.kept {t':Nat} (I:Inv X pins σ H s) (k:∀b u,s.heap.get? b=some u->h'.get? b=some u):Inv X pins σ H {s with heap:=h',toks:=t'}:=I.un (Un.kept k) (I.hok.kept k)
theorem Inv.laid {a:Addr} {o:HO} {t':Nat} (I:Inv X pins σ H s) (k:∀b u,s.heap.get? b=some u->h'.get? b=some u) (hp:s.heap.objs.size<=a) (new:ObjOk X.prog X.w (upd H a o) h' a o):
 Inv X pins σ (upd H a o) {s with heap:=h',toks:=t'}:=I.un (Un.laid k hp (I.hok.fresh hp)) (I.hok.laid k hp new)
theorem Inv.write {x e:Addr} {o:HO} {t':Nat} (I:Inv X pins σ H s) (mu:Mut (H x)) (he:e=x\/H e=some (.own x)) (k:∀b u,b≠e->s.heap.get? b=some u->h'.get? b=some u) (heo:∃u,h'.get? e=some u)
 (new:ObjOk X.prog X.w (upd H x o) h' x o):Inv X pins σ (upd H x o) {s with heap:=h',toks:=t'}:=I.un (Un.write mu he k heo) (I.hok.write mu he k heo new)
theorem Inv.weak {σ':List (Option V)} (I:Inv X pins σ H s) (hl:σ'.length=σ.length) (w:∀(i:Nat) v,σ'[i]?=some (some v)->σ[i]?=some (some v)):Inv X pins σ' H s:=
 ⟨I.ok,I.os,I.bare,I.base,let ⟨m,hn,hl'⟩:=I.loc;⟨m,hn,fun i x v e1 e2 e3=>hl' i x v e1 (w i v e2) e3⟩,I.cell,I.free,I.freeC,I.pin,I.hok,hl.trans I.len⟩
theorem Inv.pins_of {pins':List (Addr×Obj)} (I:Inv X pins σ H s) (h:∀p∈pins',s.heap.get? p.1=some p.2/\H p.1=none/\p.1≠X.env.locals/\p.1∉X.fs/\∀v,p.2.data≠ .cell v):Inv X pins' σ H s:=
 ⟨I.ok,I.os,I.bare,I.base,I.loc,I.cell,I.free,I.freeC,fun p hp=>(yN.mp hp).elim (fun z=>I.pin p (zq _ z)) (h p),I.hok,I.len⟩
theorem jL {N:List Str} (hN:N.Nodup) {i j:Nat} {x:Str} (a:N[i]?=some x) (b:N[j]?=some x):i=j:=by
 obtain ⟨h1,e1⟩:=yt.mp a;obtain ⟨h2,e2⟩:=yt.mp b;exact (List.getElem_inj hN).mp (e1.trans e2.symm)
theorem ic {M:Model} {A:Around} {E:Value->Shared->Prop} {i:Nat} {x:Str} {v:V} {u:Value} {Q:Unit->Shared->Prop} (I:Inv X pins σ H s) (hN:X.N.Nodup) (hi:X.N[i]?=some x) (hx:Loc X.env.scope x) (r:RelV v u)
 (h:∀s',Inv X pins (σ.set i (some v)) H s'->(∃a,Heap.SameBut a s.heap s'.heap/\(a=X.env.locals\/X.env.cells.lookup x=some a))->Q () s') (hf:X.fn x=true\/X.env.scope.names.lookup x=some .local):wpAny M A (storeName X.env x u) Q E s:=by
 obtain ⟨m,hn,hl⟩:=id I.loc;have hcls:(X.env.scope.kind== .class ||(X.env.scope.kind== .module&&X.env.locals !=X.env.globals))=false:=by rw [I.ok.kind];rfl
 have hiσ:i < σ.length:=by rw [I.len];exact (yt.mp hi).1
 have cne:=I.cne
 have tracked:∀ {a:Addr} {h':Heap},(∃o,s.heap.get? a=some o/\H a=none)->Heap.SameBut a s.heap h'->HOk X.prog X.w H h':=fun {a h'} ha hs b ob e=>by
  obtain ⟨_,_,hfree⟩:=ha;refine (I.hok b ob e).stay (fun c w' hc q=>(hs.2 c ?_).trans q) (fun _ q=>q) fun _ _ q=>q;rintro rfl;rcases hc with rfl|hc
  . rw [hfree] at e;cases e
  . rw [hfree] at hc;cases hc
 rcases hx with hk|hk
 . refine wpAny_storeName_local hk hn (fun h' hn' hs=> ?_) hcls;refine hZq fun q_ e_=> ?_;obtain ⟨oL,_,_,hoL,_⟩:=id hn;subst e_;refine h _ ⟨I.ok,I.os,I.bare,⟨fun b o e n hb hx=> ?_,fun b o e n hb hx=> ?_,I.base.free,fun b o e hx=> ?_,I.base.tups,I.base.frzs,I.base.tbls⟩,⟨_,hn',fun j y v' e1 e2 e3=> ?_⟩,fun y c e=> ?_,I.free,I.freeC,fun p hp=> ?_,tracked ⟨oL,hoL,I.free⟩ hs,by simpa using I.len⟩ ⟨_,hs, .inl rfl⟩
   . exact (hs.2 b (yA (yL (Heap.lt_size e) I.ok.above))).trans (I.base.keep b o e n hb hx)
   . obtain ⟨sl,e1⟩:=I.base.slot b o e n hb hx;exact ⟨sl,(hs.2 b (yA (yL (Heap.lt_size e) I.ok.above))).trans e1⟩
   . obtain ⟨o',e1⟩:=I.base.there b o e hx;exact ⟨o',(hs.2 b (yA (yL (Heap.lt_size e) I.ok.above))).trans e1⟩
   . by_cases hj:j=i
     . subst hj;rw [hi] at e1;cases e1;rw [List.getElem?_set_self hiσ] at e2;cases e2;exact ⟨u,r, .inl ⟨hk,by simp⟩⟩
     . rw [List.getElem?_set_ne (Ne.symm hj)] at e2;obtain ⟨u',r',q⟩:=hl j y v' e1 e2 e3;refine ⟨u',r',?_⟩;rcases q with ⟨k,e⟩|⟨k,c,e,z⟩
       . refine .inl ⟨k,?_⟩;have:y≠x:=fun e=>hj (jL hN e1 (e▸hi));simp [this,e]
       . exact .inr ⟨k,c,e,z.sameBut hs (cne y c e)⟩
   . obtain ⟨w',z⟩:=I.cell y c e;exact ⟨w',z.sameBut hs (cne y c e)⟩
   . refine hZq fun q_ e_=> ?_;obtain ⟨e,n,ne,nf,d⟩:=I.pin p hp;subst e_;exact ⟨(hs.2 p.1 ne).trans e,n,ne,nf,d⟩
 . have hfn:X.fn x=true:=by
    rcases hf with z|z
    . exact z
    . rw [z] at hk;cases hk
   obtain ⟨c,hc⟩:=I.ok.has x (.inl hk);obtain ⟨w',z⟩:=I.cell x c hc;refine wpAny_storeName_cell I.ok.kind hk hc z (fun h' hc' hs=> ?_);obtain ⟨oc,hoc,hocd⟩:=id z;refine h {s with heap:=h'} ⟨I.ok,I.os,I.bare,⟨fun b o e n hb hx=> ?_,fun b o e n hb hx=> ?_,I.base.free,fun b o e hx=> ?_,I.base.tups,I.base.frzs,I.base.tbls⟩,⟨m,hn.sameBut hs (Ne.symm (cne x c hc)),fun j y v' e1 e2 e3=> ?_⟩,fun y c' e=> ?_,I.free,I.freeC,fun p hp=> ?_,tracked ⟨oc,hoc,I.freeC x c hc⟩ hs,by simpa using I.len⟩ ⟨c,hs, .inr hc⟩
   . exact (hs.2 b (yA (yL (Heap.lt_size e) (I.ok.cab x c hfn hc)))).trans (I.base.keep b o e n hb hx)
   . obtain ⟨sl,e1⟩:=I.base.slot b o e n hb hx;exact ⟨sl,(hs.2 b (yA (yL (Heap.lt_size e) (I.ok.cab x c hfn hc)))).trans e1⟩
   . obtain ⟨o',e1⟩:=I.base.there b o e hx;exact ⟨o',(hs.2 b (yA (yL (Heap.lt_size e) (I.ok.cab x c hfn hc)))).trans e1⟩
   . by_cases hj:j=i
     . subst hj;rw [hi] at e1;cases e1;rw [List.getElem?_set_self hiσ] at e2;cases e2;exact ⟨u,r, .inr ⟨.inl hk,c,hc,hc'⟩⟩
     . rw [List.getElem?_set_ne (Ne.symm hj)] at e2;obtain ⟨u',r',q⟩:=hl j y v' e1 e2 e3;refine ⟨u',r',?_⟩;rcases q with q|⟨k,c',e,z'⟩
       . exact .inl q
       . refine .inr ⟨k,c',e,z'.sameBut hs ?_⟩;rintro rfl;exact hj (jL hN e1 (I.ok.inj _ _ _ e hc▸hi))
   . by_cases hcc:c'=c
     . subst hcc;exact ⟨_,hc'⟩
     . obtain ⟨w2,z2⟩:=I.cell y c' e;exact ⟨w2,z2.sameBut hs hcc⟩
   . refine hZq fun q_ e_=> ?_;obtain ⟨e,n,ne,nf,d⟩:=I.pin p hp;subst e_;refine ⟨(hs.2 p.1 ?_).trans e,n,ne,nf,d⟩;intro q;rw [q,hoc] at e;have q':oc=p.2:=yF e;exact d w' (by rw [<-q'];exact hocd)
theorem eI {M:Model} {A:Around} {E:Value->Shared->Prop} {i:Nat} {x:Str} {v:V} {u:Value} {Q:Unit->Shared->Prop} (I:Inv X pins σ H s) (hN:X.N.Nodup) (hi:X.N[i]?=some x) (hx:Loc X.env.scope x) (r:RelV v u)
 (h:∀s',Inv X pins (σ.set i (some v)) H s'->Q () s') (hf:X.fn x=true\/X.env.scope.names.lookup x=some .local):wpAny M A (storeName X.env x u) Q E s:=
 ic I hN hi hx r (fun s' I' _=>h s' I') hf
theorem Inv.call' {s':Shared} {ch:List Addr} (I:Inv X pins σ H s) (ho:s'.os=s.os) (u:Un (frs X.stack) ch H H' s.heap s'.heap) (hok:HOk X.prog X.w H' s'.heap) (hg:AllBare s'.gens)
 (hch:∀b∈ch,(b∈X.ex\/X.s₀.heap.objs.size<=b)/\b≠X.env.locals/\(∀x c,X.env.cells.lookup x=some c->c≠b)/\∀p∈X.pn++pins,p.1≠b):Inv X pins σ H' s':=by
 obtain ⟨h',g',d',t',o'⟩:=s';have e:o'=s.os:=ho;subst e;exact I.call (g':=g') (t':=t') (d':=d') u hok hg hch
end
abbrev XK:=Value->Option Addr->Hp->Prop
abbrev St:=List (Option V)
abbrev VK:=V->Hp->Prop
abbrev TE:=St->Hp->VK->Prop
abbrev TT:=St->Hp->(Bool->Hp->Prop)->Prop
abbrev TA:=St->Hp->(List V->Hp->Prop)->Prop
structure Ends where
 nx:St->Hp->Prop
 rt:VK
 bk:St->Hp->Prop:=fun _ _=>False
 ct:St->Hp->Prop:=fun _ _=>False
abbrev TS:=Ends->St->Hp->Prop
def EP (X:Cx) (pins:List (Addr×Obj)) (σ:St) (Q:VK) (u:Value) (s':Shared):Prop:=∃v H',Inv X pins σ H' s'/\RelV v u/\Q v H'
def TP (X:Cx) (pins:List (Addr×Obj)) (σ:St) (Q:Bool->Hp->Prop) (b:Bool) (s':Shared):Prop:=∃H',Inv X pins σ H' s'/\Q b H'
def AP (X:Cx) (pins:List (Addr×Obj)) (σ:St) (Q:List V->Hp->Prop) (us:List Value) (s':Shared):Prop:=∃vs H',Inv X pins σ H' s'/\Vals vs us/\Q vs H'
def SP (X:Cx) (pins:List (Addr×Obj)) (D:Ends) (f:Flow) (s':Shared):Prop:=
 match f with
 | .next=>∃σ' H',Inv X pins σ' H' s'/\D.nx σ' H'
 | .brk=>∃σ' H',Inv X pins σ' H' s'/\D.bk σ' H'
 | .cont=>∃σ' H',Inv X pins σ' H' s'/\D.ct σ' H'
 | .ret u=>∃v σ' H',Inv X pins σ' H' s'/\RelV v u/\D.rt v H'
def PE (X:Cx) (e:Expr) (t:TE):Prop:=
 ∀(pins:List (Addr×Obj)) (s:Shared) (σ:St) (H:Hp) (Q:VK),Inv X pins σ H s->t σ H Q->wpAny (model X.prog X.w) X.A (eval e X.env) (EP X pins σ Q) X.xe s
def PT (X:Cx) (e:Expr) (t:TT):Prop:=
 ∀(pins:List (Addr×Obj)) (s:Shared) (σ:St) (H:Hp) (Q:Bool->Hp->Prop),Inv X pins σ H s->t σ H Q->wpAny (model X.prog X.w) X.A (isTrue e X.env (eval e X.env)) (TP X pins σ Q) X.xe s
def PW (X:Cx) (e:Expr) (t:TT):Prop:=
 ∀(whole:Sem Value) (pins:List (Addr×Obj)) (s:Shared) (σ:St) (H:Hp) (Q:Bool->Hp->Prop),Inv X pins σ H s->t σ H Q->wpAny (model X.prog X.w) X.A (isTrue e X.env whole) (TP X pins σ Q) X.xe s
theorem PW.pt {X:Cx} {e:Expr} {t:TT} (h:PW X e t):PT X e t:=h _
def PA (X:Cx) (es:List Expr) (t:TA):Prop:=
 ∀(pos:Pos) (pins:List (Addr×Obj)) (s:Shared) (σ:St) (H:Hp) (Q:List V->Hp->Prop),Inv X pins σ H s->t σ H Q->wpAny (model X.prog X.w) X.A (spliced (backTo pos (starEach es X.env))) (AP X pins σ Q) X.xe s
def PS (X:Cx) (st:Stmt) (t:TS):Prop:=
 ∀(pins:List (Addr×Obj)) (s:Shared) (σ:St) (H:Hp) (D:Ends),Inv X pins σ H s->t D σ H->wpAny (model X.prog X.w) X.A (exec st X.env) (SP X pins D) X.xe s
def PSs (X:Cx) (st:List Stmt) (t:TS):Prop:=
 ∀(pins:List (Addr×Obj)) (s:Shared) (σ:St) (H:Hp) (D:Ends),Inv X pins σ H s->t D σ H->wpAny (model X.prog X.w) X.A (execs st X.env) (SP X pins D) X.xe s
theorem thn {α:Type} {t:Sem α} {Q Q':α->Shared->Prop} {M:Model} {A:Around} {E:Value->Shared->Prop} {s:Shared} (h:wpAny M A t Q E s) (hQ:∀a s,Q a s->Q' a s):wpAny M A t Q' E s:=wpAny_mono h hQ fun _ _ x=>x
open PySem PySem.Spec PyProof.Rows
section
variable {X:Cx}
def tVar (i:Nat):TE:=fun σ H Q=>∃v,σ[i]?=some (some v)/\Q v H
def tC (v:V):TE:=fun _ H Q=>Q v H
theorem qZ {i:Nat} {x:Str} {pos:Pos} (hN:X.N[i]?=some x) (hv:Vis X.env.scope x) (hd:(x==("__debug__":Str))=false:=by decide) (hcd:(x==("__classdict__":Str))=false:=by decide):PE X (.Name x pos) (tVar i):=by
 intro pins s σ H Q I h;obtain ⟨v,e,h⟩:=h;obtain ⟨m,hn,hl⟩:=I.loc;obtain ⟨u,r,l⟩:=hl i x v hN e hv;have fin:EP X pins σ Q u s:=⟨v,H,I,r,h⟩;rcases l with ⟨hk,hm⟩|⟨hk,c,hc,hcell⟩
 . exact wpAny_Name (wpAny_loadName_local I.ok.kind hk hn hm fin) hd
 . rcases hk with hk|hk
   . exact wpAny_Name (wpAny_loadName_cell I.ok.kind hk hc hcell fin) hd
   . exact wpAny_Name (wpAny_loadName_free I.ok.kind hk hc hcell fin hcd) hd
theorem ad {i j pos}:PE X (.Constant (.int i) j pos) (tC (.int i)):=fun _ _ _ H _ I h=>wpAny_Constant_int ⟨.int i,H,I.tok _,⟨_,rfl⟩,h⟩
theorem ii {b j pos}:PE X (.Constant (.bool b) j pos) (tC (.bl b)):=fun _ _ _ H _ I h=>Constant_bool ⟨.bl b,H,I,rfl,h⟩
theorem l6 {j pos}:PE X (.Constant .none j pos) (tC .non):=fun _ _ _ H _ I h=>Constant_none ⟨.non,H,I,rfl,h⟩
theorem bK {x j pos}:PE X (.Constant (.str x) j pos) (tC (.str x)):=fun _ _ _ H _ I h=>Calls.Constant_str ⟨.str x,H,I.tok _,⟨_,rfl⟩,h⟩
def Gl (X:Cx) (x:Str):Prop:=X.env.kindOf x=some .globalImplicit
theorem mM {E:Value->Shared->Prop} {pins:List (Addr×Obj)} {s:Shared} {σ:St} {H:Hp} {x:Str} {u:Value} {pos:Pos} {Q:Value->Shared->Prop} (I:Inv X pins σ H s) (hg:Gl X x) (hm:X.mg x=some u) (h:Q u s)
 (hd:(x==("__debug__":Str))=false:=by decide):wpAny (model X.prog X.w) X.A (eval (.Name x pos) X.env) Q E s:=
 Calls.Name_function_global I.ok.kind hg (Calls.loadGlobal_global (by rw [I.ok.glob];exact I.mod.glob.keeps I.bk) hm h) hd
theorem fk {E:Value->Shared->Prop} {pins:List (Addr×Obj)} {s:Shared} {σ:St} {H:Hp} {x:Str} {u:Value} {pos:Pos} {Q:Value->Shared->Prop} (I:Inv X pins σ H s) (hg:Gl X x) (hm:X.mg x=none) (hv:bootBuiltins x=some u) (h:Q u s)
 (hn:x≠"__name__":=by decide) (hd:(x==("__debug__":Str))=false:=by decide):wpAny (model X.prog X.w) X.A (eval (.Name x pos) X.env) Q E s:=by
 obtain ⟨mb,h1,h2⟩:=I.mod.blt;exact Calls.Name_function_global I.ok.kind hg (Calls.loadGlobal_builtin (by rw [I.ok.glob];exact I.mod.glob.keeps I.bk) hm (by rw [I.ok.blt];exact h1.keeps I.bk) ((h2 x hn).trans hv) h) hd
variable {a b:Expr} {ta tb:TE} {pos:Pos}
def PC (X:Cx) (op:CmpOp) (a b:Expr) (t:TE):Prop:=
 ∀(pins:List (Addr×Obj)) (s:Shared) (σ:St) (H:Hp) (Q:VK),Inv X pins σ H s->t σ H Q->
  wpAny (model X.prog X.w) X.A (eval a X.env) (fun v s₁=>wpAny (model X.prog X.w) X.A (eval b X.env) (fun u s₂=>wpAny (model X.prog X.w) X.A (compareOp op v u) (EP X pins σ Q) X.xe s₂) X.xe s₁) X.xe s
theorem rE (b:Expr) {op:CmpOp} (h:op≠ .In) (h2:op≠ .NotIn):behindInMarks op b=false:=by
 have e1:(op==CmpOp.In)=false:=by cases op<;>first|rfl|exact absurd rfl h
 have e2:(op==CmpOp.NotIn)=false:=by cases op<;>first|rfl|exact absurd rfl h2
 cases b<;>simp [behindInMarks,e1,e2]
def xq (ta:TE):TE:=fun σ H Q=>ta σ H fun x H1=>Q (.bl (!decide (x= .non))) H1
theorem RelV.none_iff {x:V} {v:Value} (r:RelV x v):(v==Value.none)=decide (x= .non):=by
 cases x with
 |non=>cases r;rfl
 |bl _=>cases r;rfl
 |int _=>obtain ⟨t,rfl⟩:=r;rfl
 |str _=>obtain ⟨t,rfl⟩:=r;rfl
 |byt _=>obtain ⟨t,rfl⟩:=r;rfl
 |flt _=>obtain ⟨t,rfl⟩:=r;rfl
 |ref _=>cases r;rfl
 |ty _=>cases r;rfl
theorem uf {j pos'} (ha:PE X a ta):PC X .IsNot a (.Constant .none j pos') (xq ta):=by
 intro pins s σ H Q I h;refine thn (ha pins s σ H _ I h) fun v s1 ⟨x,H1,I1,r1,q1⟩=> ?_;exact Constant_none (isnot_none_gen ⟨.bl _,H1,I1,by rw [r1.none_iff];rfl,q1⟩)
def tB (t:TE):TT:=fun σ H Q=>t σ H fun x H1=>∃c,x= .bl c/\Q c H1
theorem vR {op:CmpOp} {t:TE} (h:PC X op a b t) (h1:behindInMarks op b=false):PT X (.Compare a [op] [b] pos) (tB t):=by
 intro pins s σ H Q I hw;refine wpAny_isTrue_Compare1 (thn (h pins s σ H _ I hw) fun v s1 h1=>thn h1 fun u s2 h2=>thn h2 fun c s3 ⟨x,H1,I1,r1,q1⟩=> ?_) h1;obtain ⟨d,rfl,q⟩:=q1;cases r1;exact wpAny_truthy_bool ⟨H1,I1,q⟩
theorem dZ {e:Expr} {t:TE} (h:PE X e t) (he:∀whole,isTrue e X.env whole=(do let v<-whole;standAt e.pos;holding [v] (truthy v))):PT X e (tB t):=by
 intro pins s σ H Q I hw;refine isTrue_plain (thn (h pins s σ H _ I hw) fun v s1 ⟨x,H1,I1,r1,q1⟩=> ?_) (he _);obtain ⟨d,rfl,q⟩:=q1;cases r1;exact wpAny_truthy_bool ⟨H1,I1,q⟩
variable {tA tB':TT} {rest:List Expr}
def tAnd (t u:TT):TT:=fun σ H Q=>t σ H fun c H1=>if c=true then u σ H1 Q else Q false H1
def tOr (t u:TT):TT:=fun σ H Q=>t σ H fun c H1=>if c=true then Q true H1 else u σ H1 Q
def tNot (t:TT):TT:=fun σ H Q=>t σ H fun c H1=>Q (!c) H1
theorem fY (ha:PT X a tA):PW X (.BoolOp .And [a] pos) tA:=by
 intro wh pins s σ H Q I h;refine isTrue_and (thn (ha pins s σ H Q I h) fun c s1 e=> ?_)
 cases c with
 |true=>exact isTrue_and_nil e
 |false=>exact e
theorem kZ (ha:PT X a tA):PW X (.BoolOp .Or [a] pos) tA:=by
 intro wh pins s σ H Q I h;refine isTrue_or (thn (ha pins s σ H Q I h) fun c s1 e=> ?_)
 cases c with
 |false=>exact isTrue_or_nil e
 |true=>exact e
theorem iV (ha:PT X a tA) (hb:PW X (.BoolOp .And (b::rest) pos) tB'):PW X (.BoolOp .And (a::b::rest) pos) (tAnd tA tB'):=by
 intro wh pins s σ H Q I h;refine isTrue_and (thn (ha pins s σ H _ I h) fun c s1 ⟨H1,I1,q1⟩=> ?_)
 cases c with
 |true=>exact hb wh pins s1 σ H1 Q I1 q1
 |false=>exact ⟨H1,I1,q1⟩
theorem qQ (ha:PT X a tA) (hb:PW X (.BoolOp .Or (b::rest) pos) tB'):PW X (.BoolOp .Or (a::b::rest) pos) (tOr tA tB'):=by
 intro wh pins s σ H Q I h;refine isTrue_or (thn (ha pins s σ H _ I h) fun c s1 ⟨H1,I1,q1⟩=> ?_)
 cases c with
 |true=>exact ⟨H1,I1,q1⟩
 |false=>exact hb wh pins s1 σ H1 Q I1 q1
theorem vQ (ha:PT X a tA):PT X (.UnaryOp .Not a pos) (tNot tA):=by
 intro pins s σ H Q I h;exact isTrue_not (ha pins s σ H (fun c H1=>Q (!c) H1) I h)
def uX (ta tb:TE):TE:=fun σ H Q=>ta σ H fun x H1=>∃c,x= .bl c/\if c=true then tb σ H1 Q else Q (.bl false) H1
def tOrV (ta tb:TE):TE:=fun σ H Q=>ta σ H fun x H1=>∃c,x= .bl c/\if c=true then Q (.bl true) H1 else tb σ H1 Q
theorem ff {op} {t:TE} (h:PE X a t):PE X (.BoolOp op [a] pos) t:=fun pins s σ H Q I hw=>BoolOp_one (h pins s σ H Q I hw)
theorem gJ (ha:PE X a ta) (hb:PE X (.BoolOp .And (b::rest) pos) tb):PE X (.BoolOp .And (a::b::rest) pos) (uX ta tb):=by
 intro pins s σ H Q I h;refine BoolOp_and (thn (ha pins s σ H _ I h) fun v s1 ⟨x,H1,I1,r1,q1⟩=> ?_);obtain ⟨c,rfl,q1⟩:=q1;cases r1;refine wpAny_truthy_bool ?_
 cases c with
 |true=>exact hb pins s1 σ H1 Q I1 q1
 |false=>exact ⟨.bl false,H1,I1,rfl,q1⟩
theorem vg (ha:PE X a ta) (hb:PE X (.BoolOp .Or (b::rest) pos) tb):PE X (.BoolOp .Or (a::b::rest) pos) (tOrV ta tb):=by
 intro pins s σ H Q I h;refine BoolOp_or (thn (ha pins s σ H _ I h) fun v s1 ⟨x,H1,I1,r1,q1⟩=> ?_);obtain ⟨c,rfl,q1⟩:=q1;cases r1;refine wpAny_truthy_bool ?_
 cases c with
 |false=>exact hb pins s1 σ H1 Q I1 q1
 |true=>exact ⟨.bl true,H1,I1,rfl,q1⟩
def tIf (t:TT) (ta tb:TE):TE:=fun σ H Q=>t σ H fun c H1=>if c=true then ta σ H1 Q else tb σ H1 Q
theorem dy {c:Expr} (hc:PT X c tA) (ha:PE X a ta) (hb:PE X b tb):PE X (.IfExp c a b pos) (tIf tA ta tb):=by
 intro pins s σ H Q I h;refine wpAny_IfExp (thn (hc pins s σ H _ I h) fun d s1 ⟨H1,I1,q1⟩=> ?_)
 cases d with
 |true=>exact ha pins s1 σ H1 Q I1 q1
 |false=>exact hb pins s1 σ H1 Q I1 q1
end
open PySem PySem.Spec PyProof.Rows
def SqL (K:PySem.W.Frag) (H:Hp) (a:Addr) (xs:List V):Prop:=
 Rd H a (.lst xs)\/
  ∃(o:Obj) (its:Array Value) (n:Nat),K.lookup a=some o/\o.cls= .type "list"/\o.dict=none/\o.data= .seq its n/\its.size<=sizeLine/\Vals xs its.toList
def SqT (K:PySem.W.Frag) (H:Hp) (a:Addr) (xs:List V):Prop:=
 Rd H a (.tup xs)\/
  ∃(o:Obj) (its:Array Value) (n:Nat),K.lookup a=some o/\o.cls= .type "tuple"/\o.data= .seq its n/\its.size<=sizeLine/\Vals xs its.toList
noncomputable def absV:Value->Option V
 | .none=>some .non
 | .bool b=>some (.bl b)
 | .int i _=>some (.int i)
 | .str x _=>some (.str x)
 | .bytes b _=>some (.byt b)
 | .float b _=>some (.flt b)
 | .ref a=>some (.ref a)
 | .type n=>some (.ty n)
 |_=>none
theorem RelV.abs {x:V} {u:Value} (r:RelV x u):absV u=some x:=by
 cases x with
 |non=>cases r;rfl
 |bl _=>cases r;rfl
 |int _=>obtain ⟨t,rfl⟩:=r;rfl
 |str _=>obtain ⟨t,rfl⟩:=r;rfl
 |byt _=>obtain ⟨t,rfl⟩:=r;rfl
 |flt _=>obtain ⟨t,rfl⟩:=r;rfl
 |ref _=>cases r;rfl
 |ty _=>cases r;rfl
theorem RelV.inj {x y:V} {u:Value} (r:RelV x u) (q:RelV y u):x=y:=yF (r.abs.symm.trans q.abs)
theorem Vals.inj:∀ {xs ys:List V} {us:List Value},Vals xs us->Vals ys us->xs=ys
 |_,_,_, .nil, .nil=>rfl
 |_,_,_, .cons r t, .cons r' t'=>by rw [r.inj r',Vals.inj t t']
section
variable {X:Cx} {pins:List (Addr×Obj)} {σ:St} {H:Hp} {s:Shared} {a:Addr} {xs ys:List V}
theorem SqL.of {K:PySem.W.Frag} (h:H a=some (.lst xs)):SqL K H a xs:= .inl (.inl h)
theorem SqT.of {K:PySem.W.Frag} (h:H a=some (.tup xs)):SqT K H a xs:= .inl (.inl h)
theorem Inv.list (I:Inv X pins σ H s) (h:SqL X.K H a xs):∃its:List Value,Vals xs its/\PlainL s.heap a its.toArray/\xs.length<=sizeLine:=by
 rcases h with h|⟨o,its,n,hk,hc,hd,hs,hz,r⟩
 . obtain ⟨z,its,n,r,e⟩:=h.ok I.hok;exact ⟨its,r,⟨_,n,e,rfl,rfl,rfl⟩,z⟩
 . refine ⟨its.toList,r,⟨o,n,I.kIn a o hk,hc,hd,by simpa using hs⟩,?_⟩
   have e:=r.length;simp only [yP] at e;omega
theorem Inv.tuple (I:Inv X pins σ H s) (h:SqT X.K H a xs):∃its:List Value,Vals xs its/\IsTup s.heap a its.toArray/\xs.length<=sizeLine:=by
 rcases h with h|⟨o,its,n,hk,hc,hs,hz,r⟩
 . obtain ⟨z,its,r,p⟩:=h.ok I.hok;exact ⟨its,r,p,z⟩
 . refine ⟨its.toList,r,⟨o,I.kIn a o hk,hc,n,by simpa using hs⟩,?_⟩
   have e:=r.length;simp only [yP] at e;omega
theorem Inv.list_inj (I:Inv X pins σ H s) (h:SqL X.K H a xs) (h':SqL X.K H a ys):xs=ys:=by
 obtain ⟨its,r,⟨o,n,e,_,_,d⟩,_⟩:=I.list h;obtain ⟨its',r',⟨o',n',e',_,_,d'⟩,_⟩:=I.list h';rw [e] at e';cases e';rw [d] at d';injection d' with d1 _;have:its=its':=by simpa using congrArg Array.toList d1
 subst this;exact r.inj r'
theorem Inv.tuple_inj (I:Inv X pins σ H s) (h:SqT X.K H a xs) (h':SqT X.K H a ys):xs=ys:=by
 obtain ⟨its,r,⟨o,e,_,n,d⟩,_⟩:=I.tuple h;obtain ⟨its',r',⟨o',e',_,n',d'⟩,_⟩:=I.tuple h';rw [e] at e';cases e';rw [d] at d';injection d' with d1 _;have:its=its':=by simpa using congrArg Array.toList d1
 subst this;exact r.inj r'
end
abbrev Cx.wish (X:Cx) (E:Value->Shared->Prop):Cx:= {X with xe:=E}
abbrev Cx.nox (X:Cx):Cx:=X.wish fun _ _=>False
theorem Cx.Ok.wish {X:Cx} (ok:X.Ok) (E:Value->Shared->Prop):(X.wish E).Ok:=
 ⟨ok.mod,ok.kind,ok.glob,ok.blt,ok.above,ok.inj,ok.has,ok.cab,ok.hd,ok.frames,ok.stk,ok.exf,ok.bs,ok.bsz,ok.noex,ok.exfs,ok.funs,ok.frf⟩
theorem Cx.Ok.unwish {X:Cx} {E:Value->Shared->Prop} (ok:(X.wish E).Ok):X.Ok:=
 ⟨ok.mod,ok.kind,ok.glob,ok.blt,ok.above,ok.inj,ok.has,ok.cab,ok.hd,ok.frames,ok.stk,ok.exf,ok.bs,ok.bsz,ok.noex,ok.exfs,ok.funs,ok.frf⟩
section
variable {X:Cx} {pins:List (Addr×Obj)} {σ:St} {H:Hp} {s:Shared} {E:Value->Shared->Prop}
theorem Inv.wish (I:Inv X pins σ H s) (E:Value->Shared->Prop):Inv (X.wish E) pins σ H s:=⟨I.ok.wish E,I.os,I.bare,I.base,I.loc,I.cell,I.free,I.freeC,I.pin,I.hok,I.len⟩
theorem Inv.unwish (I:Inv (X.wish E) pins σ H s):Inv X pins σ H s:=⟨I.ok.unwish,I.os,I.bare,I.base,I.loc,I.cell,I.free,I.freeC,I.pin,I.hok,I.len⟩
theorem SP.unwish {D:Ends} {f:Flow} {s':Shared} (h:SP (X.wish E) pins D f s'):SP X pins D f s':=by
 cases f with
 |next=>obtain ⟨σ',H',I,q⟩:=h;exact ⟨σ',H',I.unwish,q⟩
 |brk=>obtain ⟨σ',H',I,q⟩:=h;exact ⟨σ',H',I.unwish,q⟩
 |cont=>obtain ⟨σ',H',I,q⟩:=h;exact ⟨σ',H',I.unwish,q⟩
 |ret u=>obtain ⟨v,σ',H',I,r,q⟩:=h;exact ⟨v,σ',H',I.unwish,r,q⟩
theorem PSs.nox {st:List Stmt} {t:TS} (h:PSs X.nox st t):PSs X st t:=fun pins s σ H D I hw=>
 wpAny_mono (h pins s σ H D (I.wish _) hw) (fun _ _ q=>q.unwish) fun _ _ z=>False.elim z
end
section
variable {X:Cx} {st:Stmt} {rest:List Stmt} {t u:TS} {e:Expr} {te:TE} {pos:Pos}
def uV:TS:=fun D σ H=>D.nx σ H
def tSeq (t u:TS):TS:=fun D σ H=>t {D with nx:=u D} σ H
theorem aU:PSs X [] uV:=fun _ _ σ H _ I h=>wpAny_execs_nil ⟨σ,H,I,h⟩
theorem ac (h1:PS X st t) (h2:PSs X rest u):PSs X (st::rest) (tSeq t u):=by
 intro pins s σ H D I h;refine wpAny_execs_cons (thn (h1 pins s σ H {D with nx:=u D} I h) fun f s1 q=> ?_)
 cases f with
 |next=>
  obtain ⟨σ',H',I',q⟩:=q;exact h2 pins s1 σ' H' D I' q
 |ret v=>exact q
 |brk=>exact q
 |cont=>exact q
theorem ah (h1:PS X st t):PSs X [st] t:=by
 intro pins s σ H D I h;refine wpAny_execs_cons (thn (h1 pins s σ H D I h) fun f s1 q=> ?_)
 cases f with
 |next=>exact wpAny_execs_nil q
 |ret v=>exact q
 |brk=>exact q
 |cont=>exact q
theorem Inv.quiet {pins:List (Addr×Obj)} {σ:St} {H:Hp} {s:Shared} (I:Inv X pins σ H s):interactive X.env=false:=by simp [interactive,I.ok.kind]
def xu (te:TE):TS:=fun D σ H=>te σ H fun _ H1=>D.nx σ H1
theorem dc (he:PE X e te) (hs:swapsWith e none pos.line X.env=pure false:=by rfl):PS X (.Expr e pos) (xu te):=by
 intro pins s σ H D I h;exact wpAny_Expr_any (thn (he pins s σ H _ I h) fun v s1 ⟨x,H1,I1,r1,q1⟩=>⟨σ,H1,I1,q1⟩) I.quiet hs
def tRet (te:TE):TS:=fun D σ H=>te σ H D.rt
theorem az (he:PE X e te):PS X (.Return (some e) pos) (tRet te):=by
 intro pins s σ H D I h;exact wpAny_Return_some (thn (he pins s σ H _ I h) fun v s1 ⟨x,H1,I1,r1,q1⟩=>⟨x,σ,H1,I1,r1,q1⟩)
def tIfS (c:TT) (t u:TS):TS:=fun D σ H=>c σ H fun b H1=>if b=true then t D σ H1 else u D σ H1
theorem cj {c:Expr} {a b:List Stmt} {tc:TT} (hc:PT X c tc) (ha:PSs X a t) (hb:PSs X b u):PS X (.If c a b pos) (tIfS tc t u):=by
 intro pins s σ H D I h;refine wpAny_If (thn (hc pins s σ H _ I h) fun d s1 ⟨H1,I1,q1⟩=> ?_)
 cases d with
 |true=>exact ha pins s1 σ H1 D I1 q1
 |false=>exact hb pins s1 σ H1 D I1 q1
end
abbrev TG:=V->St->Hp->(St->Hp->Prop)->Prop
abbrev TGs:=List V->St->Hp->(St->Hp->Prop)->Prop
def PG (X:Cx) (target:Expr) (t:TG):Prop:=
 ∀(pins:List (Addr×Obj)) (s:Shared) (σ:St) (H:Hp) (v:V) (u:Value) (Q:St->Hp->Prop),Inv X pins σ H s->RelV v u->t v σ H Q->
  wpAny (model X.prog X.w) X.A (assign target X.env u) (fun _ s'=>∃σ' H',Inv X pins σ' H' s'/\Q σ' H') X.xe s
def PGs (X:Cx) (ts:List Expr) (t:TGs):Prop:=
 ∀(pins:List (Addr×Obj)) (s:Shared) (σ:St) (H:Hp) (vs:List V) (us:List Value) (Q:St->Hp->Prop),Inv X pins σ H s->Vals vs us->t vs σ H Q->
  wpAny (model X.prog X.w) X.A (assignInOrder ((assignEach ts X.env).map (·.2)) us) (fun _ s'=>∃σ' H',Inv X pins σ' H' s'/\Q σ' H') X.xe s
abbrev TSet:=V->V->V->Hp->(Hp->Prop)->Prop
def PSet (X:Cx) (t:TSet):Prop:=
 ∀(pins:List (Addr×Obj)) (s:Shared) (σ:St) (H:Hp) (o i v:V) (ov iv u:Value) (Q:Hp->Prop),Inv X pins σ H s->RelV o ov->RelV i iv->RelV v u->t o i v H Q->
  wpAny (model X.prog X.w) X.A (setItem ov iv u) (fun _ s'=>∃H',Inv X pins σ H' s'/\Q H') X.xe s
section
variable {X:Cx} {pos:Pos}
def aL (i:Nat):TG:=fun v σ H Q=>Q (σ.set i (some v)) H
theorem iZ {i:Nat} {x:Str} (hN:X.N.Nodup) (hi:X.N[i]?=some x) (hx:Loc X.env.scope x) (hf:X.fn x=true\/X.env.scope.names.lookup x=some .local):PG X (.Name x pos) (aL i):=by
 intro pins s σ H v u Q I r h;exact wpAny_assign_Name (eI I hN hi hx r (fun s' I'=>⟨_,H,I',h⟩) hf)
def gNil:TGs:=fun vs σ H Q=>vs= []/\Q σ H
def bf (t:TG) (u:TGs):TGs:=fun vs σ H Q=>∃v r,vs=v::r/\t v σ H fun σ' H'=>u r σ' H' Q
theorem aP:PGs X [] gNil:=by
 intro pins s σ H vs us Q I r h;obtain ⟨e,h⟩:=h;subst e;cases r;exact assignInOrder_nil ⟨σ,H,I,h⟩
theorem aj {e:Expr} {es:List Expr} {t:TG} {u:TGs} (h1:PG X e t) (h2:PGs X es u)
 (hs:(assignEach (e::es) X.env).map (·.2)=assign e X.env::(assignEach es X.env).map (·.2):=by rfl):PGs X (e::es) (bf t u):=by
 intro pins s σ H vs us Q I r h;obtain ⟨v,vr,e1,h⟩:=h;subst e1
 cases r with
 |cons r rr=>
  rw [hs];refine assignInOrder_cons (thn (h1 pins s σ H _ _ _ I r h) fun _ s1 ⟨σ1,H1,I1,q1⟩=> ?_);exact h2 pins s1 σ1 H1 _ _ Q I1 rr q1
def gTup (K:PySem.W.Frag) (n:Nat) (t:TGs):TG:=fun v σ H Q=>∃a xs,v= .ref a/\SqT K H a xs/\xs.length=n/\t xs σ H Q
theorem be {es:List Expr} {k:Nat} {t:TGs} {n:Nat} (hc:X.calm=true) (h:PGs X es t)
 (hn:(assignEach es X.env).length=n:=by rfl) (hst:(assignEach es X.env).findIdx? (·.1)=none:=by rfl):PG X (.Tuple es k pos) (gTup X.K n t):=by
 intro pins s σ H v u Q I r hw;obtain ⟨a,xs,e1,hq,hl,hw⟩:=hw;subst e1;cases r;obtain ⟨its,rv,ht,hz⟩:=I.tuple hq;refine assign_Tuple_tuple (I.ok.hd hc) ht (by simp [hn,<-hl,rv.length]) hst fun h' hx=> ?_
 have I1:Inv X pins σ H {s with heap:=h'}:=I.kept (t':=s.toks) fun b o e=>hx b o (yA (Heap.lt_size e)) e;exact h pins _ σ H xs _ Q I1 (by simpa using rv) hw
def gSub (to ti:TE) (t:TSet):TG:=fun v σ H Q=>to σ H fun o H1=>ti σ H1 fun i H2=>t o i v H2 fun H3=>Q σ H3
theorem fe {o i:Expr} {to ti:TE} {t:TSet} (ho:PE X o to) (hi:PE X i ti) (hs:PSet X t)
 (ha:∀v,assign (.Subscript o i pos) X.env v=(do
  let ov<-holding [v] (eval o X.env)
  let iv<-holding [v,ov] (eval i X.env)
  standAt pos
  holding [v,ov,iv] (setItem ov iv v)
  release [v,ov,iv] []):=by intro _;rfl):PG X (.Subscript o i pos) (gSub to ti t):=by
 intro pins s σ H v u Q I r h;rw [ha];refine wpAny_bind (wpAny_holding (thn (ho pins s σ H _ I h) fun ov s1 ⟨x,H1,I1,r1,q1⟩=> ?_));refine wpAny_bind (wpAny_holding (thn (hi pins s1 σ H1 _ I1 q1) fun iv s2 ⟨y,H2,I2,r2,q2⟩=> ?_));refine wpAny_bind (wpAny_standAt (wpAny_bind (wpAny_holding (thn (hs pins s2 σ H2 x y v ov iv u _ I2 r1 r2 r q2) fun _ s3 ⟨H3,I3,q3⟩=> ?_))));exact wpAny_release ⟨σ,H3,I3,q3⟩
def tAsg (te:TE) (g:TG):TS:=fun D σ H=>te σ H fun x H1=>g x σ H1 D.nx
theorem e5 {tg e:Expr} {te:TE} {g:TG} (he:PE X e te) (hg:PG X tg g) (hs:swapsWithSole [tg] e pos.line X.env=pure false:=by rfl) (hw:swappedStores [tg] e X.env=pure none:=by rfl)
 (h1:(assignEach [tg] X.env).map (·.2)= [assign tg X.env]:=by rfl):PS X (.Assign [tg] e pos) (tAsg te g):=by
 intro pins s σ H D I h;refine wpAny_Assign_stores (thn (he pins s σ H _ I h) fun v s1 ⟨x,H1,I1,r1,q1⟩=> ?_) hs hw;rw [h1];exact thn (hg pins s1 σ H1 x v _ I1 r1 q1) fun _ s2 q=>q
theorem qW {i:Nat} {x:Str} {e:Expr} {te:TE} {pos':Pos} (hN:X.N.Nodup) (hi:X.N[i]?=some x) (hx:Loc X.env.scope x) (he:PE X e te) (hs:swapsWith e (some (.Name x pos')) pos.line X.env=pure false:=by rfl) (hf:X.fn x=true\/X.env.scope.names.lookup x=some .local):
 PS X (.Assign [.Name x pos'] e pos) (tAsg te (aL i)):=by
 intro pins s σ H D I h;refine wpAny_Assign_Name (thn (he pins s σ H _ I h) fun v s1 ⟨y,H1,I1,r1,q1⟩=> ?_) hs;exact eI I1 hN hi hx r1 (fun s2 I2=>⟨_,H1,I2,q1⟩) hf
def tPar (i j:Nat) (ta:TA):TS:=fun D σ H=>ta σ H fun vs H1=>∃v w,vs= [v,w]/\D.nx ((σ.set i (some v)).set j (some w)) H1
theorem vS {i j:Nat} {x y:Str} {a b:Expr} {ta:TA} {px py pt:Pos} {kt k2 pt2} (hc:X.calm=true) (hN:X.N.Nodup) (hi:X.N[i]?=some x) (hj:X.N[j]?=some y) (hij:i≠j)
 (hx:X.env.scope.names.lookup x=some .local) (hy:X.env.scope.names.lookup y=some .local) (ha:PA X [a,b] ta)
 (hw:swappedStores [.Tuple [.Name x px, .Name y py] kt pt] (.Tuple [a,b] k2 pt2) X.env=pure (some [x,y]))
 (hs:swapsWithSole [.Tuple [.Name x px, .Name y py] kt pt] (.Tuple [a,b] k2 pt2) pos.line X.env=pure false:=by rfl):
 PS X (.Assign [.Tuple [.Name x px, .Name y py] kt pt] (.Tuple [a,b] k2 pt2) pos) (tPar i j ta):=by
 intro pins s σ H D I h;rw [exec_Assign_arm];refine wpAny_bind (wpAny_standAt ?_);rw [hs];refine wpAny_bind (wpAny_pure ?_);rw [if_neg (by decide)]
 refine wpAny_bind (Tuple_ (thn (ha _ pins s σ H _ I h) fun us s1 ⟨vs,H1,I1,r1,q1⟩=> ?_));refine hZq fun q_ e_=> ?_;obtain ⟨v,w,e1,q1⟩:=q1;subst e1
 obtain ⟨u1,u2,rfl,rv,rw'⟩:∃u1 u2,us= [u1,u2]/\RelV v u1/\RelV w u2:=by
  cases r1 with
  |cons p q=>
   cases q with
   |cons p' q'=>
    cases q';exact ⟨_,_,rfl,p,p'⟩
 subst e_;refine wpAny_newObj_type ?_ (by show 2<=sizeLine;decide)
 have I2:Inv X pins σ H1 {s1 with heap:=s1.heap.push {cls:= .type "tuple",data:= .seq [u1,u2].toArray}}:=I1.kept (t':=s1.toks) fun b o e=>Heap.get?_push_of_some _ e;rw [hw];refine wpAny_bind (wpAny_pure ?_);show wpAny (model X.prog X.w) X.A (do rule "assign.swapped-stores";let items<-unpackItems (.ref s1.heap.objs.size) 2 none;assignInOrder [fun v=>bindName X.env y v,fun v=>bindName X.env x v] items.reverse;pure Flow.next) _ _ _
 refine wpAny_bind (wpAny_rule (wpAny_bind (unpackItems_tuple (items:= #[u1,u2]) (I.ok.hd hc) (IsTup.new s1.heap _) fun h' hx'=> ?_)));have I3:=I2.kept (h':=h') (t':=s1.toks) fun b o e=>hx' b o (yA (Heap.lt_size e)) e;show wpAny _ _ (assignInOrder [fun v=>bindName X.env y v,fun v=>bindName X.env x v] [u2,u1] >>=fun _=>pure Flow.next) _ _ _;refine wpAny_bind (assignInOrder_cons (wpAny_bindName (eI I3 hN hj (.inl hy) rw' (fun s2 I4=> ?_) (.inr hy))));refine assignInOrder_cons (wpAny_bindName (eI I4 hN hi (.inl hx) rv (fun s3 I5=>assignInOrder_nil (wpAny_pure ?_)) (.inr hx)));rw [List.set_comm _ _ (Ne.symm hij)] at I5;exact ⟨_,H1,I5,q1⟩
def pA (c:TT) (tb:TS):TS:=fun D σ H=>∃W:Nat->St->Hp->Prop,(∃m,W m σ H)/\∀m σ H,W m σ H->
 c σ H fun b H1=>if b=true then∃N:St->Hp->Prop,(∀σ' H',N σ' H'->∃m',m' < m/\W m' σ' H')/\tb {D with nx:=N,ct:=N,bk:=D.nx} σ H1 else D.nx σ H1
theorem jH {c:Expr} {body:List Stmt} {tc:TT} {tb:TS} (hp:PassesOwn (model X.prog X.w) X.A X.env X.xe) (hc:PT X c tc) (hb:PSs X body tb):PS X (.While c body [] pos) (pA tc tb):=by
 intro pins s σ H D I h;obtain ⟨W,⟨m0,w0⟩,turn⟩:=h;refine wpAny_While (codeAny_whileLoop (fun n s'=>∃σ' H',Inv X pins σ' H' s'/\W n σ' H') ?_ m0 ⟨σ,H,I,w0⟩);rintro n s1 ⟨σ1,H1,I1,w1⟩;refine wpAny_passesOwn hp (thn (hc pins s1 σ1 H1 _ I1 (turn n σ1 H1 w1)) fun b s2 ⟨H2,I2,q2⟩=> ?_)
 cases b with
 |true=>
  obtain ⟨N,hN,q2⟩:=q2;rw [if_pos rfl];refine wpAny_passesOwn hp (thn (hb pins s2 σ1 H2 _ I2 q2) fun f s3 q3=> ?_)
  cases f with
  |next=>
   obtain ⟨σ3,H3,I3,n3⟩:=q3;obtain ⟨m',hm,w3⟩:=hN σ3 H3 n3;exact ⟨m',hm,σ3,H3,I3,w3⟩
  |cont=>
   obtain ⟨σ3,H3,I3,n3⟩:=q3;obtain ⟨m',hm,w3⟩:=hN σ3 H3 n3;exact ⟨m',hm,σ3,H3,I3,w3⟩
  |brk=>exact q3
  |ret v=>exact q3
 |false=>
  rw [if_neg yE];exact wpAny_execs_nil ⟨σ1,H2,I2,q2⟩
end
structure It where
 go:Nat->Hp->Prop
 yld:Nat->Hp->V->Hp->Prop
 stop:Nat->Hp->Prop
def FpOk (X:Cx) (pins:List (Addr×Obj)) (H:Hp) (b:Addr):Prop:=
 H b=none/\b≠X.env.locals/\b∉X.fs/\(b∈X.ex\/X.s₀.heap.objs.size<=b)/\(∀x c,X.env.cells.lookup x=some c->c≠b)/\∀p∈X.pn++pins,p.1≠b
theorem Inv.fpOk {X:Cx} {pins:List (Addr×Obj)} {σ:St} {H H':Hp} {s:Shared} {b:Addr} (I:Inv X pins σ H s) (hb:s.heap.objs.size<=b) (hn:H' b=none):FpOk X pins H' b:=by
 refine ⟨hn,Nat.ne_of_gt (yL I.lt hb),I.nofs hb, .inr (yC I.sz hb),fun x c e z=> ?_,fun p hp z=> ?_⟩
 . obtain ⟨v,q⟩:=I.cell x c e;exact absurd (yL q.lt (by rw [z];exact hb)) (zL _)
 . exact absurd (yL (Heap.lt_size (I.pin p hp).1) (by rw [z];exact hb)) (zL _)
structure Turn (P:Program) (w:World) (K:PySem.W.Frag) (tg:Expr) (J:It) (fp:List Addr) (it:Addr) (tn:Nat->Heap->Prop):Prop where
 mem:it∈fp
 obj:∀i h,tn i h->∀b∈fp,∃o,h.get? b=some o/\∀v,o.data≠ .cell v
 keep:∀i h h',tn i h->(∀b∈fp,∀o,h.get? b=some o->h'.get? b=some o)->tn i h'
 item:∀(X:Cx),X.prog=P->X.w=w->X.K=K->X.calm=true->∀(i:Nat) (pins:List (Addr×Obj)) (s:Shared) (σ:St) (H:Hp) (E:Value->Shared->Prop),Inv X pins σ H s->(∀b∈fp,FpOk X pins H b)->tn i s.heap->J.go i H->
  wpAny (model P w) X.A (pyNext (.ref it)) (fun r s1=>∃u,r=some u/\
   wpAny (model P w) X.A (letOwnedTupleGo tg (.ref it) u) (fun _ s2=>∃x H',Inv X pins σ H' s2/\RelV x u/\J.yld i H x H'/\tn (i+1) s2.heap/\∀b∈fp,H' b=none) E s1) E s
 done:∀(X:Cx),X.prog=P->X.w=w->X.K=K->X.calm=true->∀(i:Nat) (pins:List (Addr×Obj)) (s:Shared) (σ:St) (H:Hp) (E:Value->Shared->Prop),Inv X pins σ H s->(∀b∈fp,FpOk X pins H b)->tn i s.heap->J.stop i H->
  wpAny (model P w) X.A (pyNext (.ref it)) (fun r s1=>r=none/\Inv X pins σ H s1) E s
 self:∀(A:Around) (i:Nat) (s:Shared) (Q:Value->Shared->Prop) (E:Value->Shared->Prop),tn i s.heap->Q (.ref it) s->wpAny (model P w) A (pyIter (.ref it)) Q E s
abbrev TI:=St->Hp->(It->Hp->Prop)->Prop
def PIE (X:Cx) (pins:List (Addr×Obj)) (σ:St) (tg:Expr) (R:It->Hp->Prop) (itv:Value) (s2:Shared):Prop:=
 ∃(it:Addr) (fp:List Addr) (tn:Nat->Heap->Prop) (J:It) (H':Hp),itv= .ref it/\Inv X pins σ H' s2/\Turn X.prog X.w X.K tg J fp it tn/\tn 0 s2.heap/\(∀b∈fp,FpOk X pins H' b)/\R J H'
def PI (X:Cx) (tg iter:Expr) (wi:TI):Prop:=
 ∀(pins:List (Addr×Obj)) (s:Shared) (σ:St) (H:Hp) (R:It->Hp->Prop),Inv X pins σ H s->wi σ H R->
  wpAny (model X.prog X.w) X.A (eval iter X.env) (fun v s1=>wpAny (model X.prog X.w) X.A (pyIter v) (PIE X pins σ tg R) X.xe s1) X.xe s
theorem ny {M:Model} {A:Around} {E:Value->Shared->Prop} {s:Shared} {tg:Expr} {it:Addr} {u:Value} {o:Obj} {n:String} {vs:Array Value} {Q:Unit->Shared->Prop} (ho:s.heap.get? it=some o) (hc:o.cls= .type n) (hd:o.data= .fields vs)
 (hn: ["enumerate","zip","dict_itemiterator","dict_reverseitemiterator","odict_iterator","itertools.zip_longest","itertools.pairwise"].contains n=false) (hQ:Q () s):wpAny M A (letOwnedTupleGo tg (.ref it) u) Q E s:=by
 unfold letOwnedTupleGo
 cases tg<;>first
  |exact wpAny_pure hQ
  |(cases u<;>first
     |exact wpAny_pure hQ
     |(refine wpAny_bind (wpAny_load ho ?_)
       rw [hc,hd];show wpAny M A (if (["enumerate","zip","dict_itemiterator","dict_reverseitemiterator","odict_iterator","itertools.zip_longest","itertools.pairwise"].contains n&&vs[0]?==some (rawInt _))=true then _ else _) Q E s;rw [if_neg (by intro h;rw [hn,Bool.false_and] at h;cases h)]
       exact wpAny_pure hQ))
noncomputable def Itl (K:PySem.W.Frag) (a:Addr):It:=
 ⟨fun i H=>∃xs x,SqL K H a xs/\xs[i]?=some x,fun i H x H'=>H'=H/\∀xs,SqL K H a xs->xs[i]?=some x,fun i H=>∃xs,SqL K H a xs/\xs.length<=i⟩
noncomputable def Itt (K:PySem.W.Frag) (a:Addr):It:=
 ⟨fun i H=>∃xs x,SqT K H a xs/\xs[i]?=some x,fun i H x H'=>H'=H/\∀xs,SqT K H a xs->xs[i]?=some x,fun i H=>∃xs,SqT K H a xs/\xs.length<=i⟩
noncomputable def Itr (lo:Int) (n:Nat):It:=⟨fun i _=>i < n,fun i H x H'=>H'=H/\x= .int (lo+i),fun i _=>n<=i⟩
theorem o0 {P:Program} {w:World} {K:PySem.W.Frag} {tg:Expr} (a it:Addr):Turn P w K tg (Itl K a) [it] it (fun i h=>h.IsListIter it a i) where
 mem:=by simp
 obj:=fun i h st b hb=>by
  have e:b=it:=by simpa using hb
  subst e;obtain ⟨o,e,c,d⟩:=st;exact ⟨o,e,fun v z=>by rw [d] at z;cases z⟩
 keep:=fun i h h' st k=>st.at fun o e=>k it (by simp) o e
 item:=by
  intro X hP hw hK hc i pins s σ H E I hf st hg;subst hP hw hK;refine hZq fun q_ e_=> ?_;obtain ⟨xs,x,hq,hx⟩:=hg;obtain ⟨its,rv,p,hz⟩:=I.list hq;obtain ⟨u,hu,ru⟩:=rv.get hx;obtain ⟨f0,f1,f2,f3,f4,f5⟩:=hf it (by simp)
  subst e_;refine wpAny_pyNext_list_item st p.isList (x:=u) (by simpa using hu) fun h' st' sb=> ?_
  have I1:Inv X pins σ H {s with heap:=h'}:=I.turned (t':=s.toks) (fun b o hb e=>(sb.2 b hb).trans e) f0 f1 f3 f4 f5;obtain ⟨o,e,c,d⟩:=id st';exact ⟨u,rfl,ny (s:= {s with heap:=h'}) e c d (by decide) ⟨x,H,I1,ru,⟨rfl,fun ys hy=>by rw [I.list_inj hy hq];exact hx⟩,st',fun b hb=>(hf b hb).1⟩⟩
 done:=by
  intro X hP hw hK hc i pins s σ H E I hf st hg;subst hP hw hK;refine hZq fun q_ e_=> ?_;obtain ⟨xs,hq,hx⟩:=hg;obtain ⟨its,rv,p,hz⟩:=I.list hq;obtain ⟨f0,f1,f2,f3,f4,f5⟩:=hf it (by simp)
  subst e_;have hl:=rv.length;exact wpAny_pyNext_list_end (I.ok.hd hc) st p.isList (by simp;omega) fun h' eb=>⟨rfl,I.turned (t':=s.toks) (fun b o hb e=>eb b o hb e) f0 f1 f3 f4 f5⟩
 self:=fun _ _ _ _ _ st h=>wpAny_pyIter_listiter st h
theorem ku {P:Program} {w:World} {K:PySem.W.Frag} {tg:Expr} (a it:Addr):Turn P w K tg (Itt K a) [it] it (fun i h=>h.IsTupleIter it a i) where
 mem:=by simp
 obj:=fun i h st b hb=>by
  have e:b=it:=by simpa using hb
  subst e;obtain ⟨o,e,c,d⟩:=st;exact ⟨o,e,fun v z=>by rw [d] at z;cases z⟩
 keep:=fun i h h' st k=>st.at fun o e=>k it (by simp) o e
 item:=by
  intro X hP hw hK hc i pins s σ H E I hf st hg;subst hP hw hK;obtain ⟨xs,x,hq,hx⟩:=hg;obtain ⟨its,rv,p,hz⟩:=I.tuple hq;obtain ⟨u,hu,ru⟩:=rv.get hx;obtain ⟨f0,f1,f2,f3,f4,f5⟩:=hf it (by simp)
  refine wpAny_pyNext_tuple_item st (show s.heap.IsTuple a its.toArray from p) (x:=u) (by simpa using hu) fun h' st' sb=> ?_
  have I1:Inv X pins σ H {s with heap:=h'}:=I.turned (t':=s.toks) (fun b o hb e=>(sb.2 b hb).trans e) f0 f1 f3 f4 f5;obtain ⟨o,e,c,d⟩:=id st';exact ⟨u,rfl,ny (s:= {s with heap:=h'}) e c d (by decide) ⟨x,H,I1,ru,⟨rfl,fun ys hy=>by rw [I.tuple_inj hy hq];exact hx⟩,st',fun b hb=>(hf b hb).1⟩⟩
 done:=by
  intro X hP hw hK hc i pins s σ H E I hf st hg;subst hP hw hK;obtain ⟨xs,hq,hx⟩:=hg;obtain ⟨its,rv,p,hz⟩:=I.tuple hq;obtain ⟨f0,f1,f2,f3,f4,f5⟩:=hf it (by simp)
  have hl:=rv.length;exact wpAny_pyNext_tuple_end (I.ok.hd hc) st (show s.heap.IsTuple a its.toArray from p) (by simp;omega) fun h' eb=>⟨rfl,I.turned (t':=s.toks) (fun b o hb e=>eb b o hb e) f0 f1 f3 f4 f5⟩
 self:=fun _ _ _ _ _ st h=>wpAny_pyIter_tupleiter st h
theorem ky {P:Program} {w:World} {K:PySem.W.Frag} {tg:Expr} (it:Addr) (lo:Int) (n:Nat):Turn P w K tg (Itr lo n) [it] it (fun i h=>IsRangeIter h it (lo+(i:Nat)*1) ((n:Int) - (i:Nat)) 1) where
 mem:=by simp
 obj:=fun i h st b hb=>by
  have e:b=it:=by simpa using hb
  subst e
  exact ⟨_,st,fun v z=>by
   have z':Data.fields _=Data.cell v:=z
   cases z'⟩
 keep:=fun i h h' st k=>k it (by simp) _ st
 item:=by
  intro X hP hw hK hc i pins s σ H E I hf st hg;subst hP hw hK;obtain ⟨f0,f1,f2,f3,f4,f5⟩:=hf it (by simp)
  have W:=Walks.range (prog:=X.prog) (w:=X.w) (I.ok.hd hc) it lo 1 n;refine W.item i s _ _ hg st fun v h' tk hv st' kk=> ?_;obtain ⟨t,rfl⟩:=hv;have I1:Inv X pins σ H {s with heap:=h',toks:=tk}:=I.turned (fun b o hb e=>kk b o (by simpa using hb) e) f0 f1 f3 f4 f5
  refine ⟨_,rfl,ny (s:= {s with heap:=h',toks:=tk}) (n:="range_iterator") st' rfl rfl (by decide) ⟨.int (lo+i),H,I1,⟨t,?_⟩,⟨rfl,rfl⟩,st',fun b hb=>(hf b hb).1⟩⟩
  rw [Int.mul_one]
 done:=by
  intro X hP hw hK hc i pins s σ H E I hf st hg;subst hP hw hK;obtain ⟨f0,f1,f2,f3,f4,f5⟩:=hf it (by simp)
  exact wpAny_pyNext_range_end (I.ok.hd hc) st (by have:n<=i:=hg;omega) fun h' eb=>⟨rfl,I.turned (t':=s.toks) (fun b o hb e=>eb b o hb e) f0 f1 f3 f4 f5⟩
 self:=fun _ _ _ _ _ st h=>wpAny_pyIter_rangeiter st h
open PySem PySem.Spec PyProof.Rows
section
variable {X:Cx} {tg:Expr}
def mZ (K:PySem.W.Frag) (tl:TE):TI:=fun σ H R=>tl σ H fun x H1=>∃a,x= .ref a/\(∃xs,SqL K H1 a xs)/\R (Itl K a) H1
def iTup (K:PySem.W.Frag) (tl:TE):TI:=fun σ H R=>tl σ H fun x H1=>∃a,x= .ref a/\(∃xs,SqT K H1 a xs)/\R (Itt K a) H1
theorem aZ {l:Expr} {tl:TE} (hl:PE X l tl):PI X tg l (mZ X.K tl):=by
 intro pins s σ H R I h;refine thn (hl pins s σ H _ I h) fun v s1 ⟨x,H1,I1,r1,q1⟩=> ?_;obtain ⟨a,e,⟨xs,hq⟩,q⟩:=q1;subst e;cases r1;obtain ⟨its,rv,p,hz⟩:=I1.list hq;refine wpAny_pyIter_list p.isList ?_;refine ⟨s1.heap.objs.size,[s1.heap.objs.size],_,_,H1,rfl,I1.kept (t':=s1.toks) fun b o e=>Heap.get?_push_of_some _ e,o0 a _,⟨_,Heap.get?_push_size _ rfl,rfl,rfl⟩,fun b hb=> ?_,q⟩;have e:b=s1.heap.objs.size:=by simpa using hb
 subst e;exact I1.fpOk (yp _) (I1.hok.fresh (yp _))
theorem fc {l:Expr} {tl:TE} (hl:PE X l tl):PI X tg l (iTup X.K tl):=by
 intro pins s σ H R I h;refine thn (hl pins s σ H _ I h) fun v s1 ⟨x,H1,I1,r1,q1⟩=> ?_;obtain ⟨a,e,⟨xs,hq⟩,q⟩:=q1;subst e;cases r1;obtain ⟨its,rv,p,hz⟩:=I1.tuple hq;refine wpAny_pyIter_tuple (show s1.heap.IsTuple a its.toArray from p) ?_;refine ⟨s1.heap.objs.size,[s1.heap.objs.size],_,_,H1,rfl,I1.kept (t':=s1.toks) fun b o e=>Heap.get?_push_of_some _ e,ku a _,⟨_,Heap.get?_push_size _ rfl,rfl,rfl⟩,fun b hb=> ?_,q⟩;have e:b=s1.heap.objs.size:=by simpa using hb
 subst e;exact I1.fpOk (yp _) (I1.hok.fresh (yp _))
theorem qK {pins:List (Addr×Obj)} {σ:St} {H:Hp} {s:Shared} {R:It->Hp->Prop} {E:Value->Shared->Prop} {lo hi:Int} {t u v:Tok} {tk:Nat} (I:Inv X pins σ H s) (h1:-(2^62)<=lo) (h2:lo < 2^62) (h3:-(2^62)<=hi) (h4:hi < 2^62)
 (q:R (Itr lo (hi - lo).toNat) H):wpAny (model X.prog X.w) X.A (pyIter (.ref s.heap.objs.size)) (PIE X pins σ tg R) E {s with heap:=s.heap.push {cls:= .type "range",data:= .fields #[.int lo t, .int hi u, .int 1 v]},toks:=tk}:=by
 refine wpAny_pyIter_range (IsRange.new ..) (small_one h1 h2 h3 h4) ?_;have I1:Inv X pins σ H {s with heap:=s.heap.push {cls:= .type "range",data:= .fields #[.int lo t, .int hi u, .int 1 v]},toks:=tk}:=I.kept fun b o e=>Heap.get?_push_of_some _ e
 refine ⟨(s.heap.push {cls:= .type "range",data:= .fields #[.int lo t, .int hi u, .int 1 v]}).objs.size,[(s.heap.push {cls:= .type "range",data:= .fields #[.int lo t, .int hi u, .int 1 v]}).objs.size],_,_,H,rfl,
  I1.kept (t':=tk) fun b o e=>Heap.get?_push_of_some _ e,ky _ lo (hi - lo).toNat,?_,fun b hb=> ?_,q⟩
 . have e1:lo+((0:Nat):Int)*1=lo:=by simp
   have e2:(((hi - lo).toNat:Nat):Int) - ((0:Nat):Int)=Builtin.Range.rangeSize lo hi 1:=by rw [rangeSize_one];split<;>omega
   show IsRangeIter _ _ (lo+((0:Nat):Int)*1) ((((hi - lo).toNat:Nat):Int) - ((0:Nat):Int)) 1;rw [e1,e2];exact Heap.get?_push_size _ rfl
 . have e:b=(s.heap.push {cls:= .type "range",data:= .fields #[.int lo t, .int hi u, .int 1 v]}).objs.size:=by simpa using hb
   subst e;exact I1.fpOk (yp _) (I1.hok.fresh (yp _))
def y9 (ta:TA):TI:=fun σ H R=>ta σ H fun vs H1=>∃j:Int,vs= [.int j]/\ -(2^62)<=j/\j < 2^62/\R (Itr 0 j.toNat) H1
theorem bP {a:Expr} {ta:TA} {p pos:Pos} (hg:Gl X "range") (hm:X.mg "range"=none) (ha:PA X [a] ta) (hs:starEach [a] X.env= [(false,eval a X.env)]:=by rfl):PI X tg (.Call (.Name "range" p) [a] [] pos) (y9 ta):=by
 intro pins s σ H R I h;refine Call_ (fk I hg hm boot_range (PyProof.Rows.callWith_type1 (thn (ha pos pins s σ H _ I h) fun us s1 ⟨vs,H1,I1,r1,q1⟩=> ?_) hs rfl));obtain ⟨j,e,q1,q2,q⟩:=q1;subst e
 cases r1 with
 |cons r rr=>
  cases rr;obtain ⟨t,rfl⟩:=r;exact call_range_1 (qK I1 (by omega) (by omega) q1 q2 (by simpa using q))
def tFor (wi:TI) (g:TG) (tb:TS):TS:=fun D σ H=>wi σ H fun J H1=>∃W:Nat->Nat->St->Hp->Prop,(∃m,W 0 m σ H1)/\∀i m σ H,W i m σ H->
 (J.stop i H/\D.nx σ H)\/(J.go i H/\∃N:St->Hp->Prop,(∀σ' H',N σ' H'->∃m',m' < m/\W (i+1) m' σ' H')/\∀x H',J.yld i H x H'->g x σ H' fun σ2 H2=>tb {D with nx:=N,ct:=N,bk:=D.nx} σ2 H2)
noncomputable def dw (fp:List Addr) (h:Heap):List (Addr×Obj):=fp.filterMap fun b=>(h.get? b).map fun o=>(b,o)
theorem aX {fp:List Addr} {h:Heap} {b:Addr} {o:Obj} (hb:b∈fp) (e:h.get? b=some o):(b,o)∈dw fp h:=List.mem_filterMap.mpr ⟨b,hb,by rw [e];rfl⟩
theorem oo {fp:List Addr} {h:Heap} {p:Addr×Obj} (hp:p∈dw fp h):p.1∈fp/\h.get? p.1=some p.2:=by
 obtain ⟨b,hb,e⟩:=List.mem_filterMap.mp hp
 cases q:h.get? b with
 |none=>rw [q] at e;cases e
 |some o=>
  rw [q] at e;have e':(b,o)=p:=yF e;subst e';exact ⟨hb,q⟩
theorem Inv.pinned {pins:List (Addr×Obj)} {σ:St} {H:Hp} {s:Shared} {fp:List Addr} (I:Inv X pins σ H s) (hf:∀b∈fp,FpOk X pins H b) (ho:∀b∈fp,∃o,s.heap.get? b=some o/\∀v,o.data≠ .cell v):Inv X (pins++dw fp s.heap) σ H s:=
 I.pins_of fun p hp=>(yN.mp hp).elim (fun z=>I.pin p (yB _ z)) fun z=>by
  obtain ⟨hb,e⟩:=oo z;obtain ⟨f0,f1,f2,_⟩:=hf p.1 hb;obtain ⟨o,e',d⟩:=ho p.1 hb;rw [e] at e';cases e';exact ⟨e,f0,f1,f2,d⟩
theorem Inv.unpinned {pins pl:List (Addr×Obj)} {σ:St} {H:Hp} {s:Shared} (I:Inv X (pins++pl) σ H s):Inv X pins σ H s:=I.pins_of fun p hp=>I.pin p (yB _ (zq _ hp))
theorem bZ {iter:Expr} {body:List Stmt} {wi:TI} {g:TG} {tb:TS} {pos:Pos} (hp:PassesOwn (model X.prog X.w) X.A X.env X.xe) (hc:X.calm=true) (hi:PI X tg iter wi) (hg:PG X tg g) (hb:PSs X body tb)
 (hs:∀x,foldedSetIterable iter X.env x=pure x:=by intro _;rfl):PS X (.For tg iter body [] pos) (tFor wi g tb):=by
 intro pins s σ H D I h;refine wpAny_For (thn (hi pins s σ H _ I h) fun v s1 h1=>thn h1 fun itv s2 h2=> ?_) hs;refine hZq fun q_ e_=> ?_;obtain ⟨it,fp,tn,J,H2,e,I2,T,st2,f2,W,⟨m0,w0⟩,turn⟩:=h2;subst e_;subst e;have stat:∀ {H':Hp},(∀b∈fp,H' b=none)->∀b∈fp,FpOk X pins H' b:=fun hn b hb=>⟨hn b hb,(f2 b hb).2⟩;refine codeAny_forLoop_any (fun n s'=>∃i σ' H',Inv X pins σ' H' s'/\tn i s'.heap/\(∀b∈fp,H' b=none)/\W i n σ' H') ?_ m0 ⟨0,σ,H2,I2,st2,fun b hb=>(f2 b hb).1,w0⟩;intro n s3 z_;refine hZq fun q_ e_=> ?_;obtain ⟨i,σ3,H3,I3,st3,fr3,w3⟩:=z_;subst e_;rcases turn i n σ3 H3 w3 with ⟨stop,qn⟩|⟨go,N,hN,step⟩
 . refine wpAny_passesOwn hp (thn (T.done X rfl rfl rfl hc i pins s3 σ3 H3 X.xe I3 (stat fr3) st3 stop) fun r s4 ⟨hr,I4⟩=> ?_);subst hr;exact wpAny_execs_nil ⟨σ3,H3,I4,qn⟩
 . refine wpAny_passesOwn hp (thn (T.item X rfl rfl rfl hc i pins s3 σ3 H3 X.xe I3 (stat fr3) st3 go) fun r s4 ⟨u,hr,h4⟩=> ?_);subst hr;refine wpAny_passesOwn hp (thn h4 fun _ s5 ⟨x,H5,I5,r5,y5,st5,fr5⟩=> ?_);have I5':=I5.pinned (stat fr5) (T.obj _ _ st5);refine wpAny_passesOwn hp (thn (hg _ s5 σ3 H5 x u _ I5' r5 (step x H5 y5)) fun _ s6 ⟨σ6,H6,I6,q6⟩=> ?_);refine wpAny_passesOwn hp (thn (hb _ s6 σ6 H6 _ I6 q6) fun f s7 q7=> ?_)
   have again:∀ {σ7:St} {H7:Hp},Inv X (pins++dw fp s5.heap) σ7 H7 s7->N σ7 H7->∃m,m < n/\∃i σ' H',Inv X pins σ' H' s7/\tn i s7.heap/\(∀b∈fp,H' b=none)/\W i m σ' H':=fun {σ7 H7} I7 n7=>by
    obtain ⟨m',hm,w7⟩:=hN σ7 H7 n7;refine ⟨m',hm,i+1,σ7,H7,I7.unpinned,T.keep _ _ _ st5 fun b hb o e=>(I7.pin (b,o) (yB _ (yB _ (aX hb e)))).1,fun b hb=> ?_,w7⟩;obtain ⟨o,e,d⟩:=T.obj _ _ st5 b hb;exact (I7.pin (b,o) (yB _ (yB _ (aX hb e)))).2.1
   cases f with
   |next=>obtain ⟨σ7,H7,I7,n7⟩:=q7;exact again I7 n7
   |cont=>obtain ⟨σ7,H7,I7,n7⟩:=q7;exact again I7 n7
   |brk=>obtain ⟨σ7,H7,I7,q7⟩:=q7;exact ⟨σ7,H7,I7.unpinned,q7⟩
   |ret v=>obtain ⟨x7,σ7,H7,I7,r7,q7⟩:=q7;exact ⟨x7,σ7,H7,I7.unpinned,r7,q7⟩
end
theorem dC {K:PySem.W.Frag} {a:Addr} {xs:List V} {g:TG} {tb:TS} {D:Ends} {σ:St} {H:Hp} (Pv:Nat->St->Hp->Prop) (h0:Pv 0 σ H) (hl:∀i σ H,i<=xs.length->Pv i σ H->SqL K H a xs)
 (hs:∀i x σ H,xs[i]?=some x->Pv i σ H->g x σ H fun σ2 H2=>tb {D with nx:=Pv (i+1),ct:=Pv (i+1),bk:=D.nx} σ2 H2) (hd:∀σ H,Pv xs.length σ H->D.nx σ H):
 ∃W:Nat->Nat->St->Hp->Prop,(∃m,W 0 m σ H)/\∀i m σ H,W i m σ H->
  ((Itl K a).stop i H/\D.nx σ H)\/((Itl K a).go i H/\∃N:St->Hp->Prop,(∀σ' H',N σ' H'->∃m',m' < m/\W (i+1) m' σ' H')/\∀x H',(Itl K a).yld i H x H'->g x σ H' fun σ2 H2=>tb {D with nx:=N,ct:=N,bk:=D.nx} σ2 H2):=by
 refine ⟨fun i m σ H=>m=xs.length - i/\i<=xs.length/\Pv i σ H,⟨xs.length,by simp,yJ _,h0⟩,?_⟩
 rintro i m σ H ⟨rfl,hi,p⟩;have q:=hl i σ H hi p;by_cases hlt:i < xs.length
 . refine .inr ⟨⟨xs,xs[i],q,by simp [hlt]⟩,Pv (i+1),fun σ' H' p'=>⟨xs.length - (i+1),by omega,rfl,hlt,p'⟩,fun x H' y=> ?_⟩
   obtain ⟨e,y⟩:=y;subst e;exact hs i x σ _ (y xs q) p
 . have e:i=xs.length:=by omega
   subst e;exact .inl ⟨⟨xs,q,yp _⟩,hd σ H p⟩
theorem jg {K:PySem.W.Frag} {a:Addr} {xs:List V} {g:TG} {tb:TS} {D:Ends} {σ:St} {H:Hp} (Pv:Nat->St->Hp->Prop) (h0:Pv 0 σ H) (hl:∀i σ H,i<=xs.length->Pv i σ H->SqT K H a xs)
 (hs:∀i x σ H,xs[i]?=some x->Pv i σ H->g x σ H fun σ2 H2=>tb {D with nx:=Pv (i+1),ct:=Pv (i+1),bk:=D.nx} σ2 H2) (hd:∀σ H,Pv xs.length σ H->D.nx σ H):
 ∃W:Nat->Nat->St->Hp->Prop,(∃m,W 0 m σ H)/\∀i m σ H,W i m σ H->
  ((Itt K a).stop i H/\D.nx σ H)\/((Itt K a).go i H/\∃N:St->Hp->Prop,(∀σ' H',N σ' H'->∃m',m' < m/\W (i+1) m' σ' H')/\∀x H',(Itt K a).yld i H x H'->g x σ H' fun σ2 H2=>tb {D with nx:=N,ct:=N,bk:=D.nx} σ2 H2):=by
 refine ⟨fun i m σ H=>m=xs.length - i/\i<=xs.length/\Pv i σ H,⟨xs.length,by simp,yJ _,h0⟩,?_⟩
 rintro i m σ H ⟨rfl,hi,p⟩;have q:=hl i σ H hi p;by_cases hlt:i < xs.length
 . refine .inr ⟨⟨xs,xs[i],q,by simp [hlt]⟩,Pv (i+1),fun σ' H' p'=>⟨xs.length - (i+1),by omega,rfl,hlt,p'⟩,fun x H' y=> ?_⟩
   obtain ⟨e,y⟩:=y;subst e;exact hs i x σ _ (y xs q) p
 . have e:i=xs.length:=by omega
   subst e;exact .inl ⟨⟨xs,q,yp _⟩,hd σ H p⟩
theorem cW {lo:Int} {n:Nat} {g:TG} {tb:TS} {D:Ends} {σ:St} {H:Hp} (Pv:Nat->St->Hp->Prop) (h0:Pv 0 σ H)
 (hs:∀i σ H,i < n->Pv i σ H->g (.int (lo+i)) σ H fun σ2 H2=>tb {D with nx:=Pv (i+1),ct:=Pv (i+1),bk:=D.nx} σ2 H2) (hd:∀σ H,Pv n σ H->D.nx σ H):
 ∃W:Nat->Nat->St->Hp->Prop,(∃m,W 0 m σ H)/\∀i m σ H,W i m σ H->
  ((Itr lo n).stop i H/\D.nx σ H)\/((Itr lo n).go i H/\∃N:St->Hp->Prop,(∀σ' H',N σ' H'->∃m',m' < m/\W (i+1) m' σ' H')/\∀x H',(Itr lo n).yld i H x H'->g x σ H' fun σ2 H2=>tb {D with nx:=N,ct:=N,bk:=D.nx} σ2 H2):=by
 refine ⟨fun i m σ H=>m=n - i/\i<=n/\Pv i σ H,⟨n,by simp,yJ _,h0⟩,?_⟩
 rintro i m σ H ⟨rfl,hi,p⟩;by_cases hlt:i < n
 . refine .inr ⟨hlt,Pv (i+1),fun σ' H' p'=>⟨n - (i+1),by omega,rfl,hlt,p'⟩,fun x H' y=> ?_⟩
   obtain ⟨e,y⟩:=y;subst e y;exact hs i σ _ hlt p
 . have e:i=n:=by omega
   subst e;exact .inl ⟨yp _,hd σ H p⟩
theorem oN {c:TT} {tb:TS} {D:Ends} {σ:St} {H:Hp} (Pv:St->Hp->Prop) (μ:St->Hp->Nat) (h0:Pv σ H)
 (hs:∀σ H,Pv σ H->c σ H fun b H1=>if b=true then tb {D with nx:=fun σ' H'=>Pv σ' H'/\μ σ' H' < μ σ H,ct:=fun σ' H'=>Pv σ' H'/\μ σ' H' < μ σ H,bk:=D.nx} σ H1 else D.nx σ H1)
 (mono:∀σ H Q Q',(∀b H1,Q b H1->Q' b H1)->c σ H Q->c σ H Q'):pA c tb D σ H:=by
 refine ⟨fun m σ H=>m=μ σ H/\Pv σ H,⟨_,rfl,h0⟩,?_⟩;rintro m σ H ⟨rfl,p⟩;refine mono σ H _ _ (fun b H1 q=> ?_) (hs σ H p)
 cases b with
 |true=>exact ⟨_,fun σ' H' ⟨p',l⟩=>⟨_,l,rfl,p'⟩,q⟩
 |false=>exact q
open PySem PySem.Spec PyProof.Rows
abbrev R2:=V->V->Hp->VK->Prop
def OpR (X:Cx) (f:Value->Value->Sem Value) (r:R2):Prop:=
 ∀(pins:List (Addr×Obj)) (s:Shared) (σ:St) (H:Hp) (x y:V) (v u:Value) (Q:VK),Inv X pins σ H s->RelV x v->RelV y u->r x y H Q->
  wpAny (model X.prog X.w) X.A (f v u) (EP X pins σ Q) X.xe s
def UnR (X:Cx) (f:Value->Sem Value) (r:V->Hp->VK->Prop):Prop:=
 ∀(pins:List (Addr×Obj)) (s:Shared) (σ:St) (H:Hp) (x:V) (v:Value) (Q:VK),Inv X pins σ H s->RelV x v->r x H Q->
  wpAny (model X.prog X.w) X.A (f v) (EP X pins σ Q) X.xe s
def ck (X:Cx) (f:Value) (r:List V->Hp->VK->Prop):Prop:=
 ∀(pins:List (Addr×Obj)) (s:Shared) (σ:St) (H:Hp) (xs:List V) (us:List Value) (Q:VK),Inv X pins σ H s->Vals xs us->r xs H Q->
  wpAny (model X.prog X.w) X.A (call f us) (EP X pins σ Q) X.xe s
def TruR (X:Cx) (r:V->Hp->(Bool->Hp->Prop)->Prop):Prop:=
 ∀(pins:List (Addr×Obj)) (s:Shared) (σ:St) (H:Hp) (x:V) (v:Value) (Q:Bool->Hp->Prop),Inv X pins σ H s->RelV x v->r x H Q->
  wpAny (model X.prog X.w) X.A (truthy v) (TP X pins σ Q) X.xe s
def tOp (r:R2) (ta tb:TE):TE:=fun σ H Q=>ta σ H fun x H1=>tb σ H1 fun y H2=>r x y H2 Q
def tUn (r:V->Hp->VK->Prop) (ta:TE):TE:=fun σ H Q=>ta σ H fun x H1=>r x H1 Q
def rI (C:Int->Int->Prop) (g:Int->Int->V):R2:=fun x y H Q=>∃i j,x= .int i/\y= .int j/\C i j/\Q (g i j) H
def rI0 (g:Int->Int->V):R2:=fun x y H Q=>∃i j,x= .int i/\y= .int j/\Q (g i j) H
def rU (g:Int->V):V->Hp->VK->Prop:=fun x H Q=>∃i,x= .int i/\Q (g i) H
section
variable {X:Cx} {a b c:Expr} {ta tb tc:TE} {pos:Pos}
theorem binT (ha:PE X a ta) (hb:PE X b tb) {pins:List (Addr×Obj)} {s:Shared} {σ:St} {H:Hp} {R:V->V->Hp->Prop} (I:Inv X pins σ H s)
 (h:ta σ H fun x H1=>tb σ H1 fun y H2=>R x y H2) {Q:Value->Shared->Prop} {f:Value->Value->Sem Value}
 (hf:∀v u s2 x y H2,Inv X pins σ H2 s2->RelV x v->RelV y u->R x y H2->wpAny (model X.prog X.w) X.A (f v u) Q X.xe s2):
 wpAny (model X.prog X.w) X.A (eval a X.env) (fun v s₁=>wpAny (model X.prog X.w) X.A (eval b X.env) (fun u s₂=>wpAny (model X.prog X.w) X.A (f v u) Q X.xe s₂) X.xe s₁) X.xe s:=by
 refine thn (ha pins s σ H _ I h) fun v s1 ⟨x,H1,I1,r1,q1⟩=> ?_;refine thn (hb pins s1 σ H1 _ I1 q1) fun u s2 ⟨y,H2,I2,r2,q2⟩=> ?_;exact hf v u s2 x y H2 I2 r1 r2 q2
theorem ak {op:Operator} {r:R2} (ho:OpR X (binaryOp op) r) (ha:PE X a ta) (hb:PE X b tb):PE X (.BinOp a op b pos) (tOp r ta tb):=by
 intro pins s σ H Q I h;exact wpAny_BinOp (binT ha hb I h fun v u s2 x y H2 I2 rx ry q=>ho pins s2 σ H2 x y v u Q I2 rx ry q)
theorem cy {op:UnaryOp} {r:V->Hp->VK->Prop} (ho:UnR X (unaryOp op) r) (ha:PE X a ta):PE X (.UnaryOp op a pos) (tUn r ta):=by
 intro pins s σ H Q I h;exact UnaryOp_ (thn (ha pins s σ H _ I h) fun v s1 ⟨x,H1,I1,r1,q1⟩=>ho pins s1 σ H1 x v Q I1 r1 q1)
theorem opI {f:Value->Value->Sem Value} {C:Int->Int->Prop} {g:Int->Int->Int}
 (rule:∀(i j:Int) (t u:Tok) (s:Shared) (Q:Value->Shared->Prop) (E:Value->Shared->Prop),C i j->Q (.int (g i j) s.toks) {s with toks:=s.toks+1}->wpAny (model X.prog X.w) X.A (f (.int i t) (.int j u)) Q E s):
 OpR X f (rI C fun i j=> .int (g i j)):=by
 intro pins s σ H x y v u Q I rx ry h;obtain ⟨i,j,rfl,rfl,hc,q⟩:=h;obtain ⟨t,rfl⟩:=rx;obtain ⟨t',rfl⟩:=ry;exact rule i j t t' s _ _ hc ⟨.int (g i j),H,I.tok _,⟨_,rfl⟩,q⟩
theorem opI0 {f:Value->Value->Sem Value} {g:Int->Int->Int}
 (rule:∀(i j:Int) (t u:Tok) (s:Shared) (Q:Value->Shared->Prop) (E:Value->Shared->Prop),Q (.int (g i j) s.toks) {s with toks:=s.toks+1}->wpAny (model X.prog X.w) X.A (f (.int i t) (.int j u)) Q E s):
 OpR X f (rI0 fun i j=> .int (g i j)):=by
 intro pins s σ H x y v u Q I rx ry h;obtain ⟨i,j,rfl,rfl,q⟩:=h;obtain ⟨t,rfl⟩:=rx;obtain ⟨t',rfl⟩:=ry;exact rule i j t t' s _ _ ⟨.int (g i j),H,I.tok _,⟨_,rfl⟩,q⟩
theorem opB0 {f:Value->Value->Sem Value} {g:Int->Int->Bool}
 (rule:∀(i j:Int) (t u:Tok) (s:Shared) (Q:Value->Shared->Prop) (E:Value->Shared->Prop),Q (.bool (g i j)) s->wpAny (model X.prog X.w) X.A (f (.int i t) (.int j u)) Q E s):
 OpR X f (rI0 fun i j=> .bl (g i j)):=by
 intro pins s σ H x y v u Q I rx ry h;obtain ⟨i,j,rfl,rfl,q⟩:=h;obtain ⟨t,rfl⟩:=rx;obtain ⟨t',rfl⟩:=ry;exact rule i j t t' s _ _ ⟨.bl (g i j),H,I,rfl,q⟩
def CDiv (i j:Int):Prop:=0 < j/\j < 1073741824
def CMul (i j:Int):Prop:=(-(2^64) < i/\i < 2^64)\/(-(2^64) < j/\j < 2^64)
theorem CMul.ok {i j:Int} (h:CMul i j):IntMulOk i j:=by
 rcases h with ⟨h1,h2⟩|⟨h1,h2⟩
 . exact .of_left (intBits_le_64 h1 h2)
 . exact .of_right (intBits_le_64 h1 h2)
theorem kr (k:Nat):(0:Int)<=2^k:=by
 rw [two_pow_cast];exact Int.natCast_nonneg _
theorem aW:OpR X (binaryOp .Add) (rI0 fun i j=> .int (i+j)):=opI0 fun _ _ _ _ _ _ _ q=>add_int q
theorem fg:OpR X (binaryOp .Sub) (rI0 fun i j=> .int (i - j)):=opI0 fun _ _ _ _ _ _ _ q=>sub_int q
theorem j0:OpR X (binaryOp .Mult) (rI CMul fun i j=> .int (i*j)):=opI fun _ _ _ _ _ _ _ hc q=>mul_int q hc.ok
theorem uh:OpR X (binaryOp .FloorDiv) (rI CDiv fun i j=> .int (i / j)):=opI fun i j _ _ _ _ _ hc q=>by
 have h1:(0:Int) < j:=hc.1;have h2:j < 1073741824:=hc.2;exact floordiv_int (by omega) (by rw [z4 i (by omega)];exact q) (.inl (PyProof.noPylong_small (by omega)))
theorem cH:OpR X (binaryOp .Mod) (rI (fun _ j=>0 < j) fun i j=> .int (i%j)):=opI fun i j _ _ _ _ _ hc q=>by
 have h1:(0:Int) < j:=hc;exact mod_int' (by omega) (by rw [Int.fmod_eq_emod_of_nonneg i (by omega)];exact q)
theorem ug:OpR X (binaryOp .Mod) (rI (fun _ j=>j≠0) fun i j=> .int (i.fmod j)):=opI fun _ _ _ _ _ _ _ hc q=>mod_int' hc q
theorem vV:OpR X (binaryOp .RShift) (rI (fun _ j=>0<=j) fun i j=> .int (i / 2^j.toNat)):=opI fun i j _ _ _ _ _ hc q=>
 rshift_int hc (by rw [z4 i (kr _)];exact q)
theorem unI {f:Value->Sem Value} {g:Int->Int}
 (rule:∀(i:Int) (t:Tok) (s:Shared) (Q:Value->Shared->Prop) (E:Value->Shared->Prop),Q (.int (g i) s.toks) {s with toks:=s.toks+1}->wpAny (model X.prog X.w) X.A (f (.int i t)) Q E s):
 UnR X f (rU fun i=> .int (g i)):=by
 intro pins s σ H x v Q I rx h;obtain ⟨i,rfl,q⟩:=h;obtain ⟨t,rfl⟩:=rx;exact rule i t s _ _ ⟨.int (g i),H,I.tok _,⟨_,rfl⟩,q⟩
theorem bA:UnR X (unaryOp .USub) (rU fun i=> .int (-i)):=unI fun _ _ _ _ _ q=>neg_int q
end
noncomputable def scal:V->V->Bool
 | .non, .non=>true| .non, .int _=>true| .int _, .non=>true| .non, .bl _=>true| .bl _, .non=>true| .non, .str _=>true| .str _, .non=>true
 | .int _, .int _=>true| .bl _, .bl _=>true| .str _, .str _=>true| .byt _, .byt _=>true
 | .int _, .str _=>true| .str _, .int _=>true| .bl _, .str _=>true| .str _, .bl _=>true
 |_,_=>false
def rEq:R2:=fun x y H Q=>scal x y=true/\Q (.bl (decide (x=y))) H
def rNe:R2:=fun x y H Q=>scal x y=true/\Q (.bl (!decide (x=y))) H
theorem nJ {i j:Int}:decide (V.int i=V.int j)=(i==j):=by
 rw [Bool.eq_iff_iff];simp
theorem sM {i j:Bool}:decide (V.bl i=V.bl j)=(i==j):=by
 rw [Bool.eq_iff_iff];simp
theorem nI {i j:Str}:decide (V.str i=V.str j)=(i==j):=by
 rw [Bool.eq_iff_iff];simp
theorem nK {i j:Array UInt8}:decide (V.byt i=V.byt j)=(i.toList==j.toList):=by
 rw [Bool.eq_iff_iff];cases i;cases j;simp
section
variable {X:Cx} {a b c:Expr} {ta tb tc:TE} {pos:Pos}
theorem aI {pins:List (Addr×Obj)} {σ:St} {H:Hp} {s:Shared} {Q:VK} {k k':Bool} (I:Inv X pins σ H s) (q:Q (.bl k) H) (e:k=k'):EP X pins σ Q (.bool k') s:=by
 subst e;exact ⟨.bl k,H,I,rfl,q⟩
theorem cD:OpR X (compareOp .Eq) rEq:=by
 intro pins s σ H x y v u Q I rx ry h;obtain ⟨hs,q⟩:=h
 cases x with
 |non=>
  cases rx
  cases y with
  |non=>cases ry;exact PySem.EqNone.eq_none_none (aI I q (by simp))
  |bl j=>cases ry;exact PySem.EqNone.eq_none_bool (aI I q (by simp))
  |int j=>obtain ⟨t',rfl⟩:=ry;exact PySem.EqNone.eq_none_int (aI I q (by simp))
  |str j=>obtain ⟨t',rfl⟩:=ry;exact PySem.EqNone.eq_none_str (aI I q (by simp))
  |_=>exact absurd (show false=true from hs) yE
 |bl i=>
  cases rx
  cases y with
  |non=>cases ry;exact PySem.EqNone.eq_bool_none (aI I q (by simp))
  |bl j=>cases ry;exact eq_bool (aI I q sM)
  |str j=>obtain ⟨t',rfl⟩:=ry;exact PySem.EqMixed.eq_bool_str (aI I q (by simp))
  |_=>exact absurd (show false=true from hs) yE
 |int i=>
  obtain ⟨t,rfl⟩:=rx
  cases y with
  |non=>cases ry;exact PySem.EqNone.eq_int_none (aI I q (by simp))
  |int j=>obtain ⟨t',rfl⟩:=ry;exact eq_int (aI I q nJ)
  |str j=>obtain ⟨t',rfl⟩:=ry;exact PySem.EqMixed.eq_int_str (aI I q (by simp))
  |_=>exact absurd (show false=true from hs) yE
 |str i=>
  obtain ⟨t,rfl⟩:=rx
  cases y with
  |non=>cases ry;exact PySem.EqNone.eq_str_none (aI I q (by simp))
  |bl j=>cases ry;exact PySem.EqMixed.eq_str_bool (aI I q (by simp))
  |int j=>obtain ⟨t',rfl⟩:=ry;exact PySem.EqMixed.eq_str_int (aI I q (by simp))
  |str j=>obtain ⟨t',rfl⟩:=ry;exact eq_str (aI I q nI)
  |_=>exact absurd (show false=true from hs) yE
 |byt i=>
  obtain ⟨t,rfl⟩:=rx
  cases y with
  |byt j=>obtain ⟨t',rfl⟩:=ry;exact PySem.W.eq_bytes (aI I q nK)
  |_=>exact absurd (show false=true from hs) yE
 |_=>cases y<;>exact absurd (show false=true from hs) yE
theorem jJ:OpR X (compareOp .NotEq) rNe:=by
 intro pins s σ H x y v u Q I rx ry h;obtain ⟨hs,q⟩:=h
 cases x with
 |non=>
  cases rx
  cases y with
  |non=>cases ry;exact PySem.EqNone.ne_none_none (aI I q (by simp))
  |bl j=>cases ry;exact PySem.EqNone.ne_none_bool (aI I q (by simp))
  |int j=>obtain ⟨t',rfl⟩:=ry;exact PySem.EqNone.ne_none_int (aI I q (by simp))
  |str j=>obtain ⟨t',rfl⟩:=ry;exact PySem.EqNone.ne_none_str (aI I q (by simp))
  |_=>exact absurd (show false=true from hs) yE
 |bl i=>
  cases rx
  cases y with
  |non=>cases ry;exact PySem.EqNone.ne_bool_none (aI I q (by simp))
  |bl j=>cases ry;exact ne_bool (aI I q (congrArg not sM))
  |str j=>obtain ⟨t',rfl⟩:=ry;exact PySem.EqMixed.ne_bool_str (aI I q (by simp))
  |_=>exact absurd (show false=true from hs) yE
 |int i=>
  obtain ⟨t,rfl⟩:=rx
  cases y with
  |non=>cases ry;exact PySem.EqNone.ne_int_none (aI I q (by simp))
  |int j=>obtain ⟨t',rfl⟩:=ry;exact ne_int (aI I q (congrArg not nJ))
  |str j=>obtain ⟨t',rfl⟩:=ry;exact PySem.EqMixed.ne_int_str (aI I q (by simp))
  |_=>exact absurd (show false=true from hs) yE
 |str i=>
  obtain ⟨t,rfl⟩:=rx
  cases y with
  |non=>cases ry;exact PySem.EqNone.ne_str_none (aI I q (by simp))
  |bl j=>cases ry;exact PySem.EqMixed.ne_str_bool (aI I q (by simp))
  |int j=>obtain ⟨t',rfl⟩:=ry;exact PySem.EqMixed.ne_str_int (aI I q (by simp))
  |str j=>obtain ⟨t',rfl⟩:=ry;exact ne_str (aI I q (congrArg not nI))
  |_=>exact absurd (show false=true from hs) yE
 |byt i=>
  obtain ⟨t,rfl⟩:=rx
  cases y with
  |byt j=>obtain ⟨t',rfl⟩:=ry;exact PySem.W.ne_bytes (aI I q (congrArg not nK))
  |_=>exact absurd (show false=true from hs) yE
 |_=>cases y<;>exact absurd (show false=true from hs) yE
theorem mv:OpR X (compareOp .Lt) (rI0 fun i j=> .bl (decide (i < j))):=opB0 fun _ _ _ _ _ _ _ q=>lt_int q
theorem eN:OpR X (compareOp .Gt) (rI0 fun i j=> .bl (decide (j < i))):=opB0 fun _ _ _ _ _ _ _ q=>gt_int q
theorem xP:OpR X (compareOp .GtE) (rI0 fun i j=> .bl (decide (j<=i))):=opB0 fun _ _ _ _ _ _ _ q=>ge_int q
theorem rj:OpR X (compareOp .Is) (fun x y H Q=>y= .non/\Q (.bl (decide (x= .non))) H):=by
 intro pins s σ H x y v u Q I rx ry h;obtain ⟨rfl,q⟩:=h;cases ry;refine is_none_gen (aI I q ?_)
 cases x<;>first
  |(cases rx;rfl)
  |(obtain ⟨t,rfl⟩:=rx;rfl)
theorem aA (b:Expr) {op:CmpOp} (h:op≠ .In:=by decide) (h2:op≠ .NotIn:=by decide):behindInMarks op b=false:=by
 have e1:(op==CmpOp.In)=false:=by cases op<;>first|rfl|exact absurd rfl h
 have e2:(op==CmpOp.NotIn)=false:=by cases op<;>first|rfl|exact absurd rfl h2
 cases b<;>simp [behindInMarks,e1,e2]
theorem c5 {op:CmpOp} {r:R2} (ho:OpR X (compareOp op) r) (ha:PE X a ta) (hb:PE X b tb) (hm:behindInMarks op b=false):PE X (.Compare a [op] [b] pos) (tOp r ta tb):=by
 intro pins s σ H Q I h;exact wpAny_Compare1 (binT ha hb I h fun v u s2 x y H2 I2 rx ry q=>ho pins s2 σ H2 x y v u Q I2 rx ry q) hm
def xo (t:TE):TT:=fun σ H Q=>t σ H fun x H'=>∃k,x= .bl k/\Q k H'
theorem aG {op:CmpOp} {r:R2} (ho:OpR X (compareOp op) r) (ha:PE X a ta) (hb:PE X b tb) (hm:behindInMarks op b=false):PT X (.Compare a [op] [b] pos) (xo (tOp r ta tb)):=by
 intro pins s σ H Q I h
 refine wpAny_isTrue_Compare1 (thn (ha pins s σ H _ I h) fun v s1 ⟨x,H1,I1,r1,q1⟩=>thn (hb pins s1 σ H1 _ I1 q1) fun u s2 ⟨y,H2,I2,r2,q2⟩=>
  thn (ho pins s2 σ H2 x y v u _ I2 r1 r2 q2) fun c s3 ⟨z,H3,I3,r3,k,e,q3⟩=> ?_) hm
 subst e;cases r3;exact wpAny_truthy_bool ⟨H3,I3,q3⟩
def TruV (K:PySem.W.Frag) (x:V) (H:Hp) (k:Bool):Prop:=
 match x with
 | .non=>k=false
 | .bl b=>k=b
 | .int i=>k=(i !=0)
 | .str y=>y.length<=sizeLine/\k=((y.length:Int) !=0)
 | .byt y=>y.size<=sizeLine/\k=((y.size:Int) !=0)
 | .ref p=>(∃xs,SqL K H p xs/\k= !xs.isEmpty)\/(∃xs,SqT K H p xs/\k= !xs.isEmpty)\/∃kvs,H p=some (.dK kvs)/\k= !kvs.isEmpty
 |_=>False
theorem lA {κ:Type} {kvs:List (κ×V)} {vs:List (κ×Value)} (r:KV kvs vs):(!vs.isEmpty)= !kvs.isEmpty:=by
 cases r<;>rfl
theorem gR {xs:List V} {its:List Value} (r:Vals xs its):(!its.toArray.isEmpty)= !xs.isEmpty:=by
 cases r<;>simp
theorem e6:(sizeLine:Nat) < 2^63:=by rw [sizeLine_eq];decide
theorem vz:TruR X (fun x H Q=>∃k,TruV X.K x H k/\Q k H):=by
 intro pins s σ H x v Q I rx h;obtain ⟨k,e,q⟩:=h;have hl:=e6;have hs:sizeLine=16777216:=sizeLine_eq
 cases x with
 |non=>
  cases rx;have e':k=false:=e;subst e';exact truthy_none ⟨H,I,q⟩
 |bl b=>
  cases rx;have e':k=b:=e;subst e';exact wpAny_truthy_bool ⟨H,I,q⟩
 |int i=>
  obtain ⟨t,rfl⟩:=rx;have e':k=(i !=0):=e;subst e';exact PySem.P.truthy_int ⟨H,I,q⟩
 |str y=>
  obtain ⟨t,rfl⟩:=rx;obtain ⟨hy,e'⟩:y.length<=sizeLine/\k=((y.length:Int) !=0):=e;subst e';exact PySem.P.truthy_str (by omega) ⟨H,I.tok _,q⟩
 |byt y=>
  obtain ⟨t,rfl⟩:=rx;obtain ⟨hy,e'⟩:y.size<=sizeLine/\k=((y.size:Int) !=0):=e;subst e';exact PySem.W.truthy_bytes (by omega) ⟨H,I.tok _,q⟩
 |ref p=>
  cases rx;have e':(∃xs,SqL X.K H p xs/\k= !xs.isEmpty)\/(∃xs,SqT X.K H p xs/\k= !xs.isEmpty)\/∃kvs,H p=some (.dK kvs)/\k= !kvs.isEmpty:=e;rcases e' with ⟨xs,hx,e'⟩|⟨xs,hx,e'⟩|⟨kvs,hx,e'⟩
  . subst e';obtain ⟨its,r,pl,hz⟩:=I.list hx;have hlen:=r.length;exact wpAny_truthy_list pl.isList (by simp only [yu];omega) ⟨H,I.tok _,by rw [gR r];exact q⟩
  . subst e';obtain ⟨its,r,pl,hz⟩:=I.tuple hx;have hlen:=r.length;exact truthy_tuple pl (by simp only [yu];omega) ⟨H,I.tok _,by rw [gR r];exact q⟩
  . subst e';obtain ⟨hz,hS,vs,r,m⟩:kvs.length<=sizeLine/\(p==sysModules)=false/\∃vs,KV kvs vs/\s.heap.DictOf (aJ X.prog X.w) p vs:=I.hok p _ hx;have hlen:kvs.length=vs.length:=Paired.length r;exact wpAny_truthy_dict hS m (by omega) ⟨H,I.tok _,by rw [lA r];exact q⟩
 |_=>exact (show False from e).elim
theorem qU (ha:PE X a ta) (he:∀whole,isTrue a X.env whole=(do let v<-whole;standAt a.pos;holding [v] (truthy v))):
 PT X a (fun σ H Q=>ta σ H fun x H'=>∃k,TruV X.K x H' k/\Q k H'):=by
 intro pins s σ H Q I h;exact isTrue_plain (thn (ha pins s σ H _ I h) fun v s1 ⟨x,H1,I1,r1,q1⟩=>vz pins s1 σ H1 x v Q I1 r1 q1) (he _)
theorem gL:OpR X (binaryOp .Add) (fun x y H Q=>∃i j,x= .str i/\y= .str j/\i.length+j.length<=sizeLine/\Q (.str (i++j)) H):=by
 intro pins s σ H x y v u Q I rx ry h;obtain ⟨i,j,rfl,rfl,hz,q⟩:=h;obtain ⟨t,rfl⟩:=rx;obtain ⟨t',rfl⟩:=ry;exact add_str (fun t' tk=>⟨.str (i++j),H,I.tok _,⟨_,rfl⟩,q⟩) hz
theorem cM {x:V} {us:List Value} (r:Vals [x] us):∃u,us= [u]/\RelV x u:=by
 cases r with
 |cons r1 r2=>cases r2;exact ⟨_,rfl,r1⟩
theorem km:ck X (.builtin "abs") (fun xs H Q=>∃i,xs= [.int i]/\Q (.int (if i < 0 then -i else i)) H):=by
 intro pins s σ H xs us Q I r h;obtain ⟨i,rfl,q⟩:=h;obtain ⟨u,rfl,t,rfl⟩:=cM r;exact call_abs_int fun u tk=>⟨.int (if i < 0 then -i else i),H,I.tok _,⟨_,rfl⟩,q⟩
end
open PySem PySem.Spec PyProof.Rows
structure ObjM (h:Heap) (x dx C:Addr) (mA:Str->Option Value):Prop where
 obj:h.get? x=some (PySem.W.instObj C dx)
 ns:h.Ns1 dx mA
 ne:dx≠x
theorem ou {h:Heap} {dx:Addr} {mA:Str->Option Value} (n:h.Ns1 dx mA):∃od,h.get? dx=some od/\∀name,PySem.W.lookIn name od=some (mA name):=by
 obtain ⟨o,es,ep,ho,hd,hk,_,hm⟩:=n;refine ⟨o,ho,fun name=> ?_⟩;have e:=hm name;unfold nsFind findBy at e;rw [<-Array.find?_toList] at e;unfold PySem.W.lookIn;rw [hd];dsimp only;split
 . rename_i y q;rw [q] at e;exact congrArg some e
 . rename_i q;rw [q] at e
   have a:es.toList.any (·.refKey)=false:=by
    rw [List.any_eq_false];intro y hy;obtain ⟨z,t,hkey⟩:=hk y (Array.mem_toList_iff.mp hy);simp [DictEntry.refKey,hkey]
   have a':¬es.toList.any (·.refKey)=true:=by rw [a];exact yE
   rw [if_neg a'];exact congrArg some e
theorem ObjM.look {h:Heap} {x dx C:Addr} {mA:Str->Option Value} (I:ObjM h x dx C mA):∃od,PySem.W.InstAt h x (PySem.W.instObj C dx) C (some od)/\∀name,PySem.W.lookIn name od=some (mA name):=
 let ⟨od,ho,hl⟩:=ou I.ns
 ⟨od,⟨I.obj,rfl,rfl,ho⟩,hl⟩
section
variable {prog:Program} {w:World} {A:Around} {E:Value->Shared->Prop} {s:Shared} {K:PySem.W.Frag} {x dx C f:Addr} {mA:Str->Option Value} {name:Str} {v:Value}
theorem uF {expr:Bool} {Q:Value->Shared->Prop} (X:K.In s.heap) (I:ObjM s.heap x dx C mA) (hg:PySem.W.plainGet K C name=true) (hh:PySem.W.hasDictIn K C=true)
 (ha:PySem.W.findIn K (.ref C) name=some none) (hv:mA name=some v) (hv':PySem.W.handedIn v=true) (h:Q v {s with toks:=s.toks+1}):
 wpAny (model prog w) A (getAttr (.ref x) name expr) Q E s:=by
 obtain ⟨od,J,hl⟩:=I.look;exact PySem.W.get_value X J (PySem.W.plainGet_of hg).1 (PySem.W.findObj_own hh ha rfl (by rw [hl,hv])) hv' h
theorem tU {ns:List Str} {Q:Unit->Shared->Prop} (X:K.In s.heap) (I:ObjM s.heap x dx C mA)
 (hs:PySem.W.findIn K (.ref C) "__setattr__"=some (some (.builtin "object.__setattr__"))) (hp:PySem.W.plainOver K C=true) (ht:PySem.W.takerIn K C name=some none) (hh:PySem.W.hasDictIn K C=true)
 (hw:PySem.Within mA ns) (hsz:ns.length<=sizeLine)
 (h:∀h',ObjM h' x dx C (fun y=>if y=name then some v else mA y)->Heap.SameBut dx s.heap h'->Q () {s with heap:=h',toks:=s.toks+2}):
 wpAny (model prog w) A (setAttr (.ref x) name v) Q E s:=by
 obtain ⟨od,J,hl⟩:=I.look;refine PySem.W.set_plain X J hs (PySem.W.osa_open (s:= {s with toks:=s.toks+1}) (r:=none) X J hp ht fun b=> ?_);obtain ⟨cd,hc,hd'⟩:=PySem.W.any_some hh;have hx:s.heap.get? x=some ⟨.ref C,some dx, .plain, #[]⟩:=I.obj;refine wpAny_bind (wpAny_pure (wpAny_bind (wpAny_bind (wpAny_loadPart hx (wpAny_bind (PySem.W.Looks.here (s:= {s with toks:=s.toks+1}) (PySem.W.looks_clsIn X hc) ?_))))));rw [hd'];refine wpAny_pure (a:=some dx) (wpAny_bind (wpAny_pure (wpAny_bind ?_)));refine wpAny_nsSet1 (s:= {s with toks:=s.toks+1}) I.ns fun h' hn2 hs2=> ?_;obtain ⟨oD,esD,epD,hoD,hdD,hcD⟩:=hn2.count (PySem.Within.cons name v hw);refine wpAny_bind (wpAny_lookBehind hoD (by rw [hdD];exact pastItsLine_dict (yC hcD (by rw [yH];omega))) ?_)
 exact wpAny_pure (h _ ⟨(hs2.2 _ (Ne.symm I.ne)).trans I.obj,hn2,I.ne⟩ hs2)
theorem rH {R:Result->Shared->Prop} {vs:List Value} {kw:List (Str×Value)} (X:K.In s.heap) (hm:PySem.W.makesIn K C=true)
 (hi:PySem.W.findIn K (.ref C) "__init__"=some (some (.ref f))) (hf:PySem.W.typeIn K (.ref f)=some (.type "function"))
 (h:codeAny (model prog w) (A.under (.builtin "type.__call__" ⟨.ref C::vs,kw⟩)) (.call (.ref f) ⟨.ref (s.heap.objs.size+1)::vs,kw⟩) (PySem.W.InitBack (s.heap.objs.size+1) R)
  {s with heap:=(s.heap.push PySem.W.emptyDict).push (PySem.W.instObj C s.heap.objs.size)}):
 codeAny (model prog w) A (.call (.ref C) ⟨vs,kw⟩) R s:=by
 obtain ⟨hh,g,d,t,os⟩:=s;exact PySem.W.make_core (PySem.W.makes_of X hm) (PySem.W.looks_findIn X hi) (fun self=>PySem.W.bind_fn X self hf) (.inl rfl) h
end
noncomputable def putF (f:Str) (v:V):List (Str×V)->List (Str×V)
 | []=> [(f,v)]
 |(g,x)::r=>if g=f then (g,v)::r else (g,x)::putF f v r
theorem fz (f g:Str) (v:V):∀fs:List (Str×V),(putF f v fs).lookup g=if g=f then some v else fs.lookup g
 | []=>by
  show List.lookup g [(f,v)]=_;by_cases h:g=f
  . have hb:(g==f)=true:=beq_iff_eq.mpr h;simp only [List.lookup,hb,if_pos h]
  . have hb:(g==f)=false:=beq_eq_false_iff_ne.mpr h;simp only [List.lookup,hb,if_neg h]
 |(k,x)::r=>by
  have ih:=fz f g v r;rw [show putF f v ((k,x)::r)=(if k=f then (k,v)::r else (k,x)::putF f v r) from rfl];by_cases hk:k=f
  . rw [if_pos hk];by_cases h:g=k
    . have hb:(g==k)=true:=beq_iff_eq.mpr h;simp only [List.lookup,hb,if_pos (h.trans hk)]
    . have hb:(g==k)=false:=beq_eq_false_iff_ne.mpr h;simp only [List.lookup,hb,if_neg (fun e:g=f=>h (e.trans hk.symm))]
  . rw [if_neg hk];by_cases h:g=k
    . have hb:(g==k)=true:=beq_iff_eq.mpr h;simp only [List.lookup,hb,if_neg (fun e:g=f=>hk (h.symm.trans e))]
    . have hb:(g==k)=false:=beq_eq_false_iff_ne.mpr h;simp only [List.lookup,hb];exact ih
theorem fm (f:Str) (v:V):∀fs:List (Str×V),f∈(putF f v fs).map (·.1)/\∀g,g∈fs.map (·.1)->g∈(putF f v fs).map (·.1)
 | []=>⟨by simp [putF],fun g h=>by simp at h⟩
 |(k,x)::r=>by
  obtain ⟨i1,i2⟩:=fm f v r;rw [show putF f v ((k,x)::r)=(if k=f then (k,v)::r else (k,x)::putF f v r) from rfl];by_cases hk:k=f
  . rw [if_pos hk];subst hk;exact ⟨by simp,fun g h=>by simpa using h⟩
  . rw [if_neg hk];refine ⟨?_,fun g h=> ?_⟩
    . rw [yG];exact ym _ i1
    . rw [yG] at h ⊢;rcases yx.mp h with e|e
      . exact yx.mpr (.inl e)
      . exact ym _ (i2 g e)
theorem fJ (f:Str) (v:V):∀fs:List (Str×V),(putF f v fs).length<=fs.length+1
 | []=>by simp [putF]
 |(k,x)::r=>by
  have ih:=fJ f v r;rw [show putF f v ((k,x)::r)=(if k=f then (k,v)::r else (k,x)::putF f v r) from rfl];by_cases hk:k=f
  . rw [if_pos hk,yH,yH];omega
  . rw [if_neg hk,yH,yH];omega
theorem RelO.some_of {v:V} {o:Option Value} (r:RelO (some v) o):∃u,o=some u/\RelV v u:=by
 cases o with
 |none=>exact (show False from r).elim
 |some u=>exact ⟨u,rfl,r⟩
theorem oC {v:V} {u:Value} (r:RelV v u):PySem.W.handedIn u=true:=by
 cases v with
 |non=>cases (show u=Value.none from r);rfl
 |bl b=>cases (show u=Value.bool b from r);rfl
 |int i=>obtain ⟨t,e⟩:=(show∃t,u=Value.int i t from r);cases e;rfl
 |str x=>obtain ⟨t,e⟩:=(show∃t,u=Value.str x t from r);cases e;rfl
 |byt b=>obtain ⟨t,e⟩:=(show∃t,u=Value.bytes b t from r);cases e;rfl
 |flt b=>obtain ⟨t,e⟩:=(show∃t,u=Value.float b t from r);cases e;rfl
 |ref a=>cases (show u=Value.ref a from r);rfl
 |ty n=>cases (show u=Value.type n from r);rfl
section
variable {P:Program} {w:World} {H H':Hp} {h h':Heap} {a C dx:Addr} {fs fs':List (Str×V)}
theorem mY (hok:HOk P w H h) (e:H a=some (.ins C dx fs)):∃mA,ObjM h a dx C mA/\(∀f,RelO (fs.lookup f) (mA f))/\PySem.Within mA (fs.map (·.1))/\fs.length<=1000/\H dx=some (.own a):=by
 obtain ⟨d,z,ne,ob,mA,n,r,q⟩:=(show ObjOk P w H h a (.ins C dx fs) from hok a _ e);exact ⟨mA,⟨ob,n,ne⟩,r,q,z,d⟩
end
structure Cls (K:PySem.W.Frag) (C:Addr):Prop where
 pg:PySem.W.plainGet K C Str.empty=true
 hd:PySem.W.hasDictIn K C=true
 po:PySem.W.plainOver K C=true
 sa:PySem.W.findIn K (.ref C) "__setattr__"=some (some (.builtin "object.__setattr__"))
theorem Cls.get {K:PySem.W.Frag} {C:Addr} (c:Cls K C) (f:Str):PySem.W.plainGet K C f=true:=c.pg
def NoAttr (K:PySem.W.Frag) (C:Addr) (f:Str):Prop:=PySem.W.findIn K (.ref C) f=some none
theorem NoAttr.taker {K:PySem.W.Frag} {C:Addr} {f:Str} (n:NoAttr K C f):PySem.W.takerIn K C f=some none:=by
 unfold PySem.W.takerIn;rw [show PySem.W.findIn K (.ref C) f=some none from n];rfl
section
variable {X:Cx} {pins:List (Addr×Obj)} {σ:St} {H:Hp} {s:Shared} {a C dx:Addr} {fs:List (Str×V)} {f:Str} {v:V} {A:Around} {E:Value->Shared->Prop}
theorem lE {b:Bool} {Q:Value->Shared->Prop} (I:Inv X pins σ H s) (e:H a=some (.ins C dx fs)) (c:Cls X.K C) (n:NoAttr X.K C f) (l:fs.lookup f=some v)
 (h:∀u s',Inv X pins σ H s'->RelV v u->Q u s'):wpAny (model X.prog X.w) A (getAttr (.ref a) f b) Q E s:=by
 obtain ⟨mA,O,r,_,_,_⟩:=mY I.hok e;obtain ⟨u,hu,ru⟩:=RelO.some_of (v:=v) (o:=mA f) (by rw [<-l];exact r f)
 exact uF I.kIn O (c.get f) c.hd n hu (oC ru) (h u _ (I.tok _) ru)
theorem kR {y:V} {u:Value} {Q:Unit->Shared->Prop} (I:Inv X pins σ H s) (e:H a=some (.ins C dx fs)) (c:Cls X.K C) (n:NoAttr X.K C f) (hl:fs.length < 1000) (ry:RelV y u)
 (h:∀s',Inv X pins σ (upd H a (.ins C dx (putF f y fs))) s'->Q () s'):wpAny (model X.prog X.w) A (setAttr (.ref a) f u) Q E s:=by
 obtain ⟨mA,O,r,wi,_,ho⟩:=mY I.hok e;have hz:(fs.map (·.1)).length<=sizeLine:=by rw [yi,sizeLine_eq];omega
 refine tU I.kIn O c.sa c.po n.taker c.hd wi hz fun h' O' sb=>h _ ?_;have hd:∃o,h'.get? dx=some o:=let ⟨o,_,_,e',_⟩:=O'.ns;⟨o,e'⟩;refine I.write (x:=a) (e:=dx) (by rw [e];exact True.intro) (.inr ho) (fun b q hb z=>(sb.2 b hb).trans z) hd ?_
 refine ⟨by rw [ae O.ne];exact ho,?_,O.ne,O'.obj,_,O'.ns,fun g=> ?_,fun g hg=> ?_⟩
 . have:=fJ f y fs;omega
 . show RelO ((putF f y fs).lookup g) (if g=f then some u else mA g);rw [fz];by_cases q:g=f
   . rw [if_pos q,if_pos q];exact ry
   . rw [if_neg q,if_neg q];exact r g
 . by_cases q:g=f
   . rw [q];exact (fm f y fs).1
   . refine (fm f y fs).2 g (wi g fun z=>hg ?_);show (if g=f then some u else mA g)=none;rw [if_neg q];exact z
theorem Inv.made (I:Inv X pins σ H s):Inv X pins σ (upd (upd H s.heap.objs.size (.own (s.heap.objs.size+1))) (s.heap.objs.size+1) (.ins C s.heap.objs.size []))
 {s with heap:=(s.heap.push PySem.W.emptyDict).push (PySem.W.instObj C s.heap.objs.size)}:=by
 have e1:(s.heap.push PySem.W.emptyDict).get? s.heap.objs.size=some PySem.W.emptyDict:=Heap.get?_push_size s.heap rfl
 have e2:((s.heap.push PySem.W.emptyDict).push (PySem.W.instObj C s.heap.objs.size)).get? (s.heap.objs.size+1)=some (PySem.W.instObj C s.heap.objs.size):=by
  have:=Heap.get?_push_size (s.heap.push PySem.W.emptyDict) (o:=PySem.W.instObj C s.heap.objs.size) rfl
  rwa [Heap.size_push] at this
 have e3:(s.heap.push PySem.W.emptyDict).Ns s.heap.objs.size (fun _=>none):=⟨PySem.W.emptyDict, #[],_,e1,rfl,(fun e he=>absurd he (by simp)),fun _=>rfl⟩
 have I1:=I.laid (a:=s.heap.objs.size) (o:= .own (s.heap.objs.size+1)) (h':=s.heap.push PySem.W.emptyDict) (t':=s.toks) (fun b u q=>Heap.get?_push_of_some _ q) (yp _) ⟨_,e1⟩;refine I1.laid (a:=s.heap.objs.size+1) (o:= .ins C s.heap.objs.size []) (t':=s.toks) (fun b u q=>Heap.get?_push_of_some _ q) (Nat.le_of_eq (Heap.size_push _ _)) ?_;have ne:s.heap.objs.size≠s.heap.objs.size+1:=yA (zF _);refine ⟨by rw [ae ne,a8],yJ _,ne,e2,fun _=>none,(Heap.Ns1.of_empty e3).at fun o q=>Heap.get?_push_of_some _ q,fun _=>True.intro,fun y hy=>absurd rfl hy⟩
theorem uK {prog:Program} {w:World} {env:Env} {e:Expr} {f:Str} {pos:Pos} {s:Shared} {Q:Value->Shared->Prop} (hb:attributeBase e f env (eval e env)=eval e env)
 (h:wpAny (model prog w) A (eval e env) (fun o s₁=>wpAny (model prog w) A (getAttr o f true) Q E s₁) E s):wpAny (model prog w) A (eval (.Attribute e f pos) env) Q E s:=
 Attribute_any_ h (by rw [arm_eval_Attribute,hb])
end
def tFld (K:PySem.W.Frag) (ta:TE) (f:Str):TE:=fun σ H Q=>ta σ H fun x H1=>∃a C dx fs v,x= .ref a/\H1 a=some (.ins C dx fs)/\Cls K C/\NoAttr K C f/\fs.lookup f=some v/\Q v H1
def sFld (K:PySem.W.Frag) (ta tv:TE) (f:Str):TS:=fun D σ H=>tv σ H fun y H1=>ta σ H1 fun x H2=>∃a C dx fs,x= .ref a/\H2 a=some (.ins C dx fs)/\Cls K C/\NoAttr K C f/\fs.length < 1000/\
 D.nx σ (upd H2 a (.ins C dx (putF f y fs)))
section
variable {X:Cx} {o e value:Expr} {f:Str} {pos pos' tpos:Pos} {ta tv:TE}
theorem aM (he:PE X e ta) (hb:attributeBase e f X.env (eval e X.env)=eval e X.env):PE X (.Attribute e f pos) (tFld X.K ta f):=by
 intro pins s σ H Q I h;refine uK hb (thn (he pins s σ H _ I h) fun u s1 ⟨x,H1,I1,rx,a,C,dx,fs,v,ex,ea,c,n,l,q⟩=> ?_);subst ex;obtain rfl:u=Value.ref a:=rx;exact lE I1 ea c n l fun u' s2 I2 ru=>⟨v,H1,I2,ru,q⟩
theorem du (ha:PE X o ta) (hv:PE X value tv) (hs:swapsWith value (some (.Attribute o f pos')) pos.line X.env=pure false):PS X (.Assign [.Attribute o f pos'] value pos) (sFld X.K ta tv f):=by
 intro pins s σ H D I h;refine plainObj_wpAny_Assign_Attribute (thn (hv pins s σ H _ I h) fun u s1 ⟨y,H1,I1,ry,q⟩=>thn (ha pins s1 σ H1 _ I1 q) fun ov s2 ⟨x,H2,I2,rx,a,C,dx,fs,ex,ea,c,n,l,q2⟩=> ?_) hs;subst ex;obtain rfl:ov=Value.ref a:=rx;exact kR I2 ea c n l ry fun s3 I3=>⟨σ,_,I3,q2⟩
end
section
variable {X:Cx} {pins:List (Addr×Obj)} {σ:St} {H:Hp} {s:Shared} {A:Around} {E:Value->Shared->Prop} {Q:Value->Shared->Prop} {c:Value} {b:Bool}
end
open PySem PySem.Spec PyProof.Rows
structure Room (k:Nat) (A:Around):Prop where
 hd:A.handled=none
 dp:A.depth+3*k+5 < recursionLimit
 un:A.units+16*k+200 < cLine
 gd:A.guards=some []
theorem Room.mono {j k:Nat} {A:Around} (r:Room k A) (h:j<=k):Room j A:=⟨r.hd,by have:=r.dp;omega,by have:=r.un;omega,r.gd⟩
theorem Room.deeper {k:Nat} {A:Around} (r:Room (k+1) A) (env:Env):Room k (A.deeper env):=
 ⟨r.hd,by have:=r.dp;show A.depth+1+3*k+5 < _;omega,by have:=r.un;show A.units+3+16*k+200 < _;omega,by first|exact r.gd|(have:=r.gd;simpa [Around.deeper,Around.under] using this)⟩
theorem Room.in1 {k:Nat} {A:Around} (r:Room (k+1) A):Room k A.in1:=
 ⟨r.hd,by have:=r.dp;show A.depth+3*k+5 < _;omega,by have:=r.un;show A.units+1+16*k+200 < _;omega,r.gd⟩
theorem lw {A:Around} {C:Addr} {us:List Value} {kw:List (Str×Value)}:(A.under (.builtin "type.__call__" ⟨.ref C::us,kw⟩)).depth=A.depth+1:=by
 first|rfl|simp [Around.under,Code.weight,Code.isCreation,Code.isGuard,Code.isCaller,Code.frames,Code.isFrame,guardIds]
theorem lu {A:Around} {C:Addr} {us:List Value} {kw:List (Str×Value)}:(A.under (.builtin "type.__call__" ⟨.ref C::us,kw⟩)).units=A.units+1:=by
 first|rfl|simp [Around.under,Code.cUnits,Code.frames,Code.isFrame]
theorem Room.make {k:Nat} {A:Around} (r:Room (k+1) A) (C:Addr) (us:List Value) (kw:List (Str×Value)):Room k (A.under (.builtin "type.__call__" ⟨.ref C::us,kw⟩)):=
 ⟨r.hd,by have:=r.dp;rw [lw];omega,by have:=r.un;rw [lu];omega,by have:=r.gd;simp [Around.under,Code.guards,Code.isGuard,guardIds,pushGuards,this]⟩
theorem Room.depth {k:Nat} {A:Around} (r:Room k A):A.depth < recursionLimit:=by have:=r.dp;omega
theorem Room.units {k:Nat} {A:Around} (r:Room k A):A.units+64 < cLine:=by have:=r.un;omega
def tNil:TA:=fun _ H Q=>Q [] H
def i8 (ta:TE) (tr:TA):TA:=fun σ H Q=>ta σ H fun x H1=>tr σ H1 fun xs H2=>Q (x::xs) H2
section
variable {X:Cx} {e:Expr} {es:List Expr} {te:TE} {t:TA} {pos:Pos}
theorem a9:PA X [] tNil:=fun _ _ _ _ H Q I h=>Calls.spliced_nil ⟨[],H,I, .nil,h⟩
theorem a0 (ha:PE X e te) (hr:PA X es t) (hs:starEach (e::es) X.env=(false,eval e X.env)::starEach es X.env:=by rfl):PA X (e::es) (i8 te t):=by
 intro pos pins s σ H Q I h;rw [hs];show wpAny _ _ (spliced ((false,eval e X.env)::backTo pos (starEach es X.env))) _ _ s;refine Calls.spliced_cons (thn (ha pins s σ H _ I h) fun u s1 ⟨x,H1,I1,r1,q1⟩=> ?_);exact thn (hr pos pins s1 σ H1 _ I1 q1) fun us s2 ⟨xs,H2,I2,r2,q2⟩=>⟨x::xs,H2,I2, .cons r1 r2,q2⟩
def tTup (t:TA):TE:=fun σ H Q=>t σ H fun xs H1=>xs.length<=sizeLine/\∀p,H1 p=none->Q (.ref p) (upd H1 p (.tup xs))
def tLst (t:TA):TE:=fun σ H Q=>t σ H fun xs H1=>xs.length<=sizeLine/\∀p,H1 p=none->Q (.ref p) (upd H1 p (.lst xs))
theorem aK {x1} (h:PA X es t):PE X (.Tuple es x1 pos) (tTup t):=by
 intro pins s σ H Q I hq;refine wpAny_Tuple_spliced (thn (h pos pins s σ H _ I hq) fun us s1 ⟨xs,H1,I1,r,z,q⟩=>⟨by rw [<-r.length];exact z,?_⟩)
 have hf:H1 s1.heap.objs.size=none:=I1.hok.fresh (yp _);refine ⟨.ref s1.heap.objs.size,upd H1 s1.heap.objs.size (.tup xs),I1.laid (t':=s1.toks) (fun b u e=>Heap.get?_push_of_some _ e) (yp _) ?_,rfl,q _ hf⟩;exact ⟨z,us,r,⟨_,Heap.get?_push_size _ rfl,rfl,_,rfl⟩⟩
theorem bu (h:PA X es t):PE X (.List es pos) (tLst t):=by
 intro pins s σ H Q I hq;refine wpAny_List_spliced (thn (h pos pins s σ H _ I hq) fun us s1 ⟨xs,H1,I1,r,z,q⟩=>⟨by rw [<-r.length];exact z,?_⟩)
 have hf:H1 s1.heap.objs.size=none:=I1.hok.fresh (yp _);refine ⟨.ref s1.heap.objs.size,upd H1 s1.heap.objs.size (.lst xs),I1.laid (t':=s1.toks) (fun b u e=>Heap.get?_push_of_some _ e) (yp _) ?_,rfl,q _ hf⟩;exact ⟨z,us,0,r,Heap.get?_push_size _ rfl⟩
end
abbrev Sp:=List V->Hp->VK->XK->Prop
abbrev CXT:=List Env->Hp->Shared->XK->Value->Shared->Prop
structure Env0 (P:Program) (w:World) (K:PySem.W.Frag) (mg:Str->Option Value) (base:Heap) (A:Around) (outer:List Env) (s:Shared) (H:Hp):Prop where
 frames:A.frames=some outer
 mod:Mod K mg base
 bs:∀b o,base.get? b=some o->s.heap.get? b=some o/\Idl (H b)
 bsz:base.objs.size<=s.heap.objs.size
 funs:s.heap.FunFrames base outer
 frf:∀b∈frs outer,H b=none
 hok:HOk P w H s.heap
 bare:AllBare s.gens
def CE (outer:List Env) (P:Program) (w:World) (H:Hp) (s:Shared) (Q:VK) (u:Value) (s':Shared):Prop:=
 ∃v H',s'.os=s.os/\AllBare s'.gens/\Un (frs outer) [] H H' s.heap s'.heap/\HOk P w H' s'.heap/\RelV v u/\Q v H'
def CR (CX:CXT) (outer:List Env) (P:Program) (w:World) (H:Hp) (s:Shared) (Q:VK) (E:XK) (r:Result) (s':Shared):Prop:=
 match r with
 | .ok (.ret u)=>CE outer P w H s Q u s'
 | .ok _=>False
 | .error e=>CX outer H s E e s'
structure FnOk (P:Program) (w:World) (K:PySem.W.Frag) (mg:Str->Option Value) (base:Heap) (CX:CXT) (k:Nat) (f:Addr) (fd:FuncData) (ps:List Str) (sp:Sp):Prop where
 len:∀vs H Q E,sp vs H Q E->vs.length=ps.length
 run:∀(A:Around) (outer:List Env) (s:Shared) (H:Hp) (args:Args) (us:List Value) (vs:List V) (Q:VK) (E:XK),Room k A->Env0 P w K mg base A outer s H->BindsTo s fd args (ps.zip us)->Vals vs us->sp vs H Q E->
  codeAny (model P w) A (.call (.ref f) args) (CR CX outer P w H s Q E) s
theorem FnOk.imp {P:Program} {w:World} {K:PySem.W.Frag} {mg:Str->Option Value} {base:Heap} {CX:CXT} {k:Nat} {f:Addr} {fd:FuncData} {ps:List Str} {sp sp':Sp} (F:FnOk P w K mg base CX k f fd ps sp)
 (h:∀vs H Q E,sp' vs H Q E->sp vs H Q E):FnOk P w K mg base CX k f fd ps sp':=
 ⟨fun vs H Q E q=>F.len vs H Q E (h _ _ _ _ q),fun A outer s H args us vs Q E hr he hb hv hs=>F.run A outer s H args us vs Q E hr he hb hv (h _ _ _ _ hs)⟩
theorem Env0.make {P:Program} {w:World} {K:PySem.W.Frag} {mg:Str->Option Value} {base:Heap} {A:Around} {outer:List Env} {s:Shared} {H:Hp} (e:Env0 P w K mg base A outer s H) (C:Addr) (us:List Value) (kw:List (Str×Value)):
 Env0 P w K mg base (A.under (.builtin "type.__call__" ⟨.ref C::us,kw⟩)) outer s H:=⟨by first|exact e.frames|(simpa [Around.under,Code.envs,Code.isFrame,pushEnvs] using e.frames),e.mod,e.bs,e.bsz,e.funs,e.frf,e.hok,e.bare⟩
theorem Env0.in1 {P:Program} {w:World} {K:PySem.W.Frag} {mg:Str->Option Value} {base:Heap} {A:Around} {outer:List Env} {s:Shared} {H:Hp} (e:Env0 P w K mg base A outer s H):
 Env0 P w K mg base A.in1 outer s H:=⟨e.frames,e.mod,e.bs,e.bsz,e.funs,e.frf,e.hok,e.bare⟩
section
variable {X:Cx} {pins:List (Addr×Obj)} {σ:St} {H:Hp} {s s':Shared}
theorem Inv.env0 (I:Inv X pins σ H s):Env0 X.prog X.w X.K X.mg X.base X.A X.stack s H:=
 ⟨I.ok.frames,I.ok.mod,I.bs,yC I.ok.bsz I.sz,I.stack,I.stkFree,I.hok,I.bare⟩
theorem Inv.after {Q:VK} {u:Value} (I:Inv X pins σ H s) (h:CE X.stack X.prog X.w H s Q u s'):EP X pins σ Q u s':=by
 obtain ⟨v,H',os,bare,un,hok,r,q⟩:=h;obtain ⟨hh,g,d,t,os'⟩:=s';obtain rfl:os'=s.os:=os;exact ⟨v,H',I.call (h':=hh) (g':=g) (d':=d) (t':=t) (ch:= []) un hok bare (fun b z=>absurd z (by simp)),r,q⟩
end
def uW (sp:Sp) (dvs:List V) (E:XK) (t:TA):TE:=fun σ H Q=>t σ H fun vs H1=>sp (vs++dvs) H1 Q E
def xr (C:Addr) (sp:Sp) (dvs:List V) (E:XK) (t:TA):TE:=fun σ H Q=>t σ H fun vs H1=>∀x dx,H1 x=none->H1 dx=none->dx≠x->
 sp (.ref x::(vs++dvs)) (upd (upd H1 dx (.own x)) x (.ins C dx [])) (fun v H2=>v= .non/\Q (.ref x) H2) E
def Binds (K:PySem.W.Frag) (fd:FuncData) (ps:List Str) (ds:List Value):Prop:=
 ∀(s:Shared) (us:List Value),K.In s.heap->(us++ds).length=ps.length->BindsTo s fd ⟨us,[]⟩ (ps.zip (us++ds))
theorem Binds.all {K:PySem.W.Frag} {fd:FuncData} {ps:List Str} (h:∀us:List Value,us.length=ps.length->bindArgs fd ⟨us,[]⟩=pure (ps.zip us)):Binds K fd ps []:=fun s us _ hl=>by
 rw [List.append_nil] at hl ⊢;exact .of_eq (h us hl)
def hX (CX:CXT) (X:Cx) (E:XK):Prop:=∀(pins:List (Addr×Obj)) (σ:St) (H:Hp) (s:Shared) (e:Value) (s':Shared),Inv X pins σ H s->CX X.stack H s E e s'->X.xe e s'
section
variable {X:Cx} {CX:CXT} {k:Nat} {f C:Addr} {fd:FuncData} {ps:List Str} {sp:Sp} {dvs:List V} {ds:List Value} {E:XK} {x m:Str} {p pos apos:Pos} {e o:Expr} {es:List Expr} {ta:TE} {t:TA}
theorem vN {pins:List (Addr×Obj)} {σ:St} {H:Hp} {s:Shared} {Q:VK} {us:List Value} {vs:List V} (F:FnOk X.prog X.w X.K X.mg X.base CX k f fd ps sp) (hr:Room k X.A) (hb:Binds X.K fd ps ds) (hd:Vals dvs ds) (hx:hX CX X E)
 (I:Inv X pins σ H s) (r:Vals vs us) (h:sp (vs++dvs) H Q E):wpAny (model X.prog X.w) X.A (call (.ref f) us) (EP X pins σ Q) X.xe s:=by
 have r2:Vals (vs++dvs) (us++ds):=r.append hd;have hl:(us++ds).length=ps.length:=by rw [<-r2.length];exact F.len _ _ _ _ h
 refine wpAny_call (codeAny_mono (F.run X.A X.stack s H ⟨us,[]⟩ (us++ds) (vs++dvs) Q E hr I.env0 (hb s us I.kIn hl) r2 h) fun r s' hq=> ?_)
 cases r with
 |error e=>exact hx pins σ H s e s' I hq
 |ok fl=>
  cases fl with
  |ret u=>exact I.after hq
  |next=>exact False.elim hq
  |brk=>exact False.elim hq
  |cont=>exact False.elim hq
theorem ai (F:FnOk X.prog X.w X.K X.mg X.base CX k f fd ps sp) (hr:Room k X.A) (hg:Gl X x) (hm:X.mg x=some (.ref f)) (hk:PySem.W.keepIn X.K (.ref f)=true) (hb:Binds X.K fd ps ds) (hd:Vals dvs ds) (hx:hX CX X E)
 (ha:PA X (e::es) t) (hdb:(x==("__debug__":Str))=false:=by decide) (he:starEach (e::es) X.env=(false,eval e X.env)::starEach es X.env:=by rfl) (hpl:(backTo pos (starEach es X.env)).any (·.1)=false:=by rfl):
 PE X (.Call (.Name x p) (e::es) [] pos) (uW sp dvs E t):=by
 intro pins s σ H Q I h;refine wpAny_Call_Name_kw (mM I hg hm ?_ hdb);refine PySem.W.callWith_K (h₀:=X.base) I.ok.mod.kin hk (thn (ha pos pins s σ H _ I h) fun us s1 ⟨vs,H1,I1,r,q⟩=>⟨I1.kIn,?_⟩) he hpl;exact vN F hr hb hd hx I1 r q
structure Mk (K:PySem.W.Frag) (C f:Addr):Prop where
 makes:PySem.W.makesIn K C=true
 init:PySem.W.findIn K (.ref C) "__init__"=some (some (.ref f))
 fn:PySem.W.isFn K (.ref f)=true
 kp:PySem.W.keepIn K (.ref C)=true
theorem qF {pins:List (Addr×Obj)} {σ:St} {H:Hp} {s:Shared} {Q:VK} {us:List Value} {vs:List V} (M:Mk X.K C f) (F:FnOk X.prog X.w X.K X.mg X.base CX k f fd ps sp) (hr:Room (k+1) X.A) (hb:Binds X.K fd ps ds) (hd:Vals dvs ds)
 (hx:hX CX X E) (I:Inv X pins σ H s) (r:Vals vs us)
 (h:∀x dx,H x=none->H dx=none->dx≠x->sp (.ref x::(vs++dvs)) (upd (upd H dx (.own x)) x (.ins C dx [])) (fun v H2=>v= .non/\Q (.ref x) H2) E):
 wpAny (model X.prog X.w) X.A (call (.ref C) us) (EP X pins σ Q) X.xe s:=by
 have hq:=h (s.heap.objs.size+1) s.heap.objs.size (I.hok.fresh (Nat.le_succ _)) (I.hok.fresh (yp _)) (yA (zF _));have I2:=Inv.made (C:=C) I;have r2:Vals (V.ref (s.heap.objs.size+1)::(vs++dvs)) (Value.ref (s.heap.objs.size+1)::(us++ds)):= .cons rfl (r.append hd)
 have hl:(Value.ref (s.heap.objs.size+1)::us++ds).length=ps.length:=by
  have e:=r2.length;rw [F.len _ _ _ _ hq] at e;exact e.symm
 refine wpAny_call (rH (f:=f) I.kIn M.makes M.init (beq_iff_eq.mp M.fn) (codeAny_mono (F.run _ X.stack _ _ ⟨Value.ref (s.heap.objs.size+1)::us,[]⟩ (Value.ref (s.heap.objs.size+1)::(us++ds)) _ _ E (hr.make C us [])
  (I2.env0.make C us []) (hb _ (Value.ref (s.heap.objs.size+1)::us) I2.kIn hl) r2 hq) fun r s' hq'=> ?_))
 cases r with
 |error e=>exact hx pins σ _ _ e s' I2 hq'
 |ok fl=>
  cases fl with
  |ret u=>
   obtain ⟨v,H',I3,rv,ev,q3⟩:=I2.after hq';subst ev;exact ⟨rv,⟨V.ref (s.heap.objs.size+1),H',I3,rfl,q3⟩⟩
  |next=>exact False.elim hq'
  |brk=>exact False.elim hq'
  |cont=>exact False.elim hq'
theorem ue (M:Mk X.K C f) (F:FnOk X.prog X.w X.K X.mg X.base CX k f fd ps sp) (hr:Room (k+1) X.A) (hg:Gl X x) (hm:X.mg x=some (.ref C)) (hb:Binds X.K fd ps ds) (hd:Vals dvs ds) (hx:hX CX X E)
 (ha:PA X (e::es) t) (hdb:(x==("__debug__":Str))=false:=by decide) (he:starEach (e::es) X.env=(false,eval e X.env)::starEach es X.env:=by rfl) (hpl:(backTo pos (starEach es X.env)).any (·.1)=false:=by rfl):
 PE X (.Call (.Name x p) (e::es) [] pos) (xr C sp dvs E t):=by
 intro pins s σ H Q I h;refine wpAny_Call_Name_kw (mM I hg hm ?_ hdb);refine PySem.W.callWith_K (h₀:=X.base) I.ok.mod.kin M.kp (thn (ha pos pins s σ H _ I h) fun us s1 ⟨vs,H1,I1,r,q⟩=>⟨I1.kIn,?_⟩) he hpl;exact qF M F hr hb hd hx I1 r q
end
section
variable {X:Cx} {CX:CXT} {k:Nat} {f C:Addr} {fd:FuncData} {ps ks:List Str} {sp:Sp} {E:XK} {x m:Str} {p pos apos kpos:Pos} {e o:Expr} {es:List Expr} {kws:List Keyword} {te ta:TE} {t tk:TA} {nm:Option Str}
variable {g:List Value->List Value->List Value} {gV:List V->List V->List V}
end
structure FnScope (N P:List Str) (sc:Scope):Prop where
 kind:sc.kind= .function
 co:sc.isCoroutine=false
 gen:sc.isGenerator=false
 nd:N.Nodup
 pre:N.take P.length=P
 par:∀x∈P,sc.names.lookup x=some .local\/sc.names.lookup x=some .cell
 nofree:∀y∈sc.names,y.2≠ .free
theorem iy {kindOf:Str->Option NameKind} {x:Str}:∀ {binds:List (Str×Value)} {m:Str->Option Value},(∀v,(x,v)∉binds)->bindL kindOf binds m x=m x
 | [],_,_=>rfl
 |(n,v)::r,m,h=>by
  unfold bindL;rw [iy fun w hw=>h w (ym _ hw)];split
  . have:x≠n:=by rintro rfl;exact h v yn
    simp [this]
  . rfl
theorem iA {kindOf:Str->Option NameKind} {x:Str}:∀ {binds:List (Str×Value)} {m:Str->Option Value},(∀v,(x,v)∉binds)->bindC kindOf binds m x=m x
 | [],_,_=>rfl
 |(n,v)::r,m,h=>by
  unfold bindC;rw [iA fun w hw=>h w (ym _ hw)];split
  . rfl
  . have:x≠n:=by rintro rfl;exact h v yn
    simp [this]
theorem iz {kindOf:Str->Option NameKind} {x:Str} {v:Value}:∀ {P:List Str} {vs:List Value} {i:Nat} {m:Str->Option Value},P.Nodup->P[i]?=some x->vs[i]?=some v->kindOf x=some .local->
 bindL kindOf (P.zip vs) m x=some v
 | [],_,_,_,_,h,_,_=>by simp at h
 |_::_,[],_,_,_,_,h,_=>by simp at h
 |p::P,w::vs,0,m,nd,h1,h2,hk=>by
  simp at h1 h2;subst h1;subst h2;show bindL kindOf ((p,w)::P.zip vs) m p=_;unfold bindL;rw [iy fun v hv=>(zu.mp nd).1 (List.of_mem_zip hv).1,if_pos hk];simp
 |p::P,w::vs,i+1,m,nd,h1,h2,hk=>by
  show bindL kindOf ((p,w)::P.zip vs) m x=_;unfold bindL;exact iz (i:=i) (zu.mp nd).2 (by simpa using h1) (by simpa using h2) hk
theorem iB {kindOf:Str->Option NameKind} {x:Str} {v:Value}:∀ {P:List Str} {vs:List Value} {i:Nat} {m:Str->Option Value},P.Nodup->P[i]?=some x->vs[i]?=some v->kindOf x≠some .local->
 bindC kindOf (P.zip vs) m x=some v
 | [],_,_,_,_,h,_,_=>by simp at h
 |_::_,[],_,_,_,_,h,_=>by simp at h
 |p::P,w::vs,0,m,nd,h1,h2,hk=>by
  simp at h1 h2;subst h1;subst h2;show bindC kindOf ((p,w)::P.zip vs) m p=_;unfold bindC;rw [iA fun v hv=>(zu.mp nd).1 (List.of_mem_zip hv).1,if_neg hk];simp
 |p::P,w::vs,i+1,m,nd,h1,h2,hk=>by
  show bindC kindOf ((p,w)::P.zip vs) m x=_;unfold bindC;exact iB (i:=i) (zu.mp nd).2 (by simpa using h1) (by simpa using h2) hk
noncomputable def eJ (N:List Str) (vs:List V):St:=vs.map some++List.replicate (N.length - vs.length) none
noncomputable def cxOf (CX:CXT) (P:Program) (w:World) (K:PySem.W.Frag) (mg:Str->Option Value) (base:Heap) (N:List Str) (qual:Str) (scope:Scope) (f:Addr) (cd:Value) (A:Around) (outer:List Env) (s:Shared) (H:Hp) (E:XK):Cx where
 prog:=P
 w:=w
 K:=K
 mg:=mg
 base:=base
 A:=A.deeper (envOfC qual scope s.heap.objs.size f cd)
 N:=N
 s₀:=s
 H₀:=H
 env:=envOfC qual scope s.heap.objs.size f cd
 outer:=outer
 stack:=envOfC qual scope s.heap.objs.size f cd::outer
 ex:= []
 calm:=true
 fn:=fun _=>true
 pn:= []
 xe:=fun e s'=>wpAny (model P w) (A.deeper (envOfC qual scope s.heap.objs.size f cd)) (leaving (envOfC qual scope s.heap.objs.size f cd) e) (fun _ s''=>CX outer H s E e s'') (fun e' s''=>CX outer H s E e' s'') s'
theorem kh {sc:Scope} {n:Nat} {x:Str} (h:sc.names.lookup x=some .cell):∃c,(cellsFrom n sc.names []).lookup x=some c:=by
 have q:=PySem.W.cellsFrom_some sc.names n [] (.inl h);exact Option.isSome_iff_exists.mp q
theorem oA {CX:CXT} {P:Program} {w:World} {K:PySem.W.Frag} {mg:Str->Option Value} {base:Heap} {N ps:List Str} {qual:Str} {scope:Scope} {f:Addr} {cd:Value} {A:Around} {outer:List Env} {s s1:Shared} {H:Hp} {E:XK} {us:List Value} {vs:List V}
 (S:FnScope N ps scope) (hd:A.handled=none) (e0:Env0 P w K mg base A outer s H) (hl:vs.length=ps.length) (r:Vals vs us)
 (x:InCallC s s.heap.objs.size (bindL (envOfC qual scope s.heap.objs.size f cd).kindOf (ps.zip us) fun _=>none) (cellsFrom (s.heap.objs.size+1) scope.names []) (bindC (envOfC qual scope s.heap.objs.size f cd).kindOf (ps.zip us) fun _=>none) s1):
 Inv (cxOf CX P w K mg base N qual scope f cd A outer s H E) [] (eJ N vs) H s1:=by
 have hpl:ps.length<=N.length:=by have:=congrArg List.length S.pre;rw [yS] at this;omega
 obtain ⟨h1,tk,rfl,hk⟩:=x.done;have noA:∀b:Addr,b∉(cxOf CX P w K mg base N qual scope f cd A outer s H E).ex:=fun b z=>absurd (show b∈([]:List Addr) from z) (by simp)
 refine ⟨⟨e0.mod,S.kind,rfl,rfl,yp _,fun y z c h1 h2=> ?_,fun y hy=> ?_,fun y c _ h=> ?_,fun _=>hd,Around.frames_deeper e0.frames, .inr ⟨rfl,rfl⟩,fun b z=>absurd z (noA b),e0.bs,e0.bsz,fun b _ _=>noA b,fun b z=>absurd z (noA b),e0.funs,e0.frf⟩,
  rfl,e0.bare,Un.kept hk,⟨_,x.toInCall.ns,fun i y v h1 h2 h3=> ?_⟩,fun y c h=>⟨_,x.cell y c h⟩,e0.hok.fresh (yp _),fun y c h=> ?_,fun p hp=>absurd (show p∈([]:List (Addr×Obj)) from hp) (by simp),e0.hok.kept hk,?_⟩
 . exact name_of_addr x.apart (PySem.mem_of_lookup h1) (PySem.mem_of_lookup h2)
 . have hy:scope.names.lookup y=some .cell\/scope.names.lookup y=some .free:=hy;rcases hy with hy|hy
   . exact kh hy
   . exact absurd rfl (S.nofree _ (PySem.mem_of_lookup hy))
 . exact Nat.le_of_lt (x.above y c (PySem.mem_of_lookup h))
 . have hi:i < vs.length:=by
    unfold eJ at h2;by_cases hi:i < vs.length
    . exact hi
    . rw [List.getElem?_append_right (by simpa using hi)] at h2
      rw [List.getElem?_replicate] at h2;split at h2<;>cases h2
   have ha:vs[i]?=some v:=by
    unfold eJ at h2;rw [List.getElem?_append_left (by simpa using hi),yo] at h2
    cases e:vs[i]? with
    |none=>rw [e] at h2;cases h2
    |some a=>rw [e] at h2;cases h2;rfl
   obtain ⟨u,hu,rv⟩:=r.get ha
   have hp:ps[i]?=some y:=by
    rw [<-S.pre,List.getElem?_take_of_lt (by omega)];exact h1
   have ndP:ps.Nodup:=by rw [<-S.pre];exact S.nd.sublist (List.take_sublist _ _)
   refine ⟨u,rv,?_⟩;rcases S.par y (yq hp) with k|k
   . exact .inl ⟨k,iz ndP hp hu k⟩
   . obtain ⟨c,e⟩:=kh (n:=s.heap.objs.size+1) k;refine .inr ⟨.inl k,c,e,?_⟩;have q:=x.cell y c e;rw [iB ndP hp hu (by show scope.names.lookup y≠_;rw [k];decide)] at q
     exact q
 . exact e0.hok.fresh (Nat.le_of_lt (x.above y c (PySem.mem_of_lookup h)))
 . unfold eJ;show _=N.length;rw [yI,yi,List.length_replicate];omega
theorem vk {CX:CXT} {P:Program} {w:World} {K:PySem.W.Frag} {mg:Str->Option Value} {base:Heap} {k:Nat} {f:Addr} {name qual:Str} {params:Arguments} {body:List Stmt} {scope:Scope} {dV kV doc pm cdv ct oc:Value} {an od:Option Addr}
 {osl:Array (Option Value)} {N ps:List Str} {sp:Sp} (lk:K.lookup f=some ⟨oc,od, .func (PySem.W.fnOf name qual params body scope dV kV doc pm an cdv ct),osl⟩) (hcd:PySem.W.codeIn K cdv qual=true) (S:FnScope N ps scope)
 (len:∀vs H Q E,sp vs H Q E->vs.length=ps.length)
 (hbody:∀(A:Around) (outer:List Env) (s:Shared) (H:Hp) (vs:List V) (Q:VK) (E:XK),Room k (A.deeper (envOfC qual scope s.heap.objs.size f cdv))->sp vs H Q E->
  ∃t,PSs (cxOf CX P w K mg base N qual scope f cdv A outer s H E) body t/\t {nx:=fun _ H'=>Q .non H',rt:=Q} (eJ N vs) H):
 FnOk P w K mg base CX (k+1) f (PySem.W.fnOf name qual params body scope dV kV doc pm an cdv ct) ps sp:=by
 refine ⟨len,fun A outer s H args us vs Q E hr e0 hb r hsp=> ?_⟩;have hl:=len _ _ _ _ hsp;have KX:K.In s.heap:=e0.mod.kin.keeps fun b o e=>(e0.bs b o e).1;have lim:s.heap.NoLimit:=e0.mod.nolimit.keeps fun b o e=>(e0.bs b o e).1
 have hkind:∀y∈ps.zip us,scope.names.lookup y.1=some .local\/(scope.names.lookup y.1=some .cell/\((cellsFrom (s.heap.objs.size+1) scope.names []).lookup y.1).isSome=true):=fun ⟨n,v⟩ hy=>by
  rcases S.par n (List.of_mem_zip hy).1 with q|q
  . exact .inl q
  . exact .inr ⟨q,PySem.W.cellsFrom_some _ _ _ (.inl q)⟩
 refine codeAny_call_function hr.depth (KX _ _ lk) rfl S.co S.gen rfl (PySem.W.codeRec_of KX hcd) (hb _ _ _ _ ?_);refine wpAny_newFunctionEnv_cells S.kind hkind fun env he s1 x=> ?_;subst he;refine ⟨lim.keeps x.toInCall.keep,codeAny_func ?_⟩;obtain ⟨t,ht,hq⟩:=hbody A outer s H vs Q E (hr.deeper _) hsp;have I:Inv (cxOf CX P w K mg base N qual scope f cdv A outer s H E) [] (eJ N vs) H s1:=oA S hr.hd e0 hl r x;refine wpAny_mono (ht [] s1 (eJ N vs) H _ I hq) (fun fl s' hs=> ?_) fun e s' hs=>hs
 have fin:∀ {σ':St} {H':Hp} {v:V} {u:Value},Inv (cxOf CX P w K mg base N qual scope f cdv A outer s H E) [] σ' H' s'->RelV v u->Q v H'->CE outer P w H s Q u s':=
  fun {σ' H' v u} J rv q=>⟨v,H',J.os,J.bare,J.base,J.hok,rv,q⟩
 cases fl with
 |ret u=>
  obtain ⟨v,σ',H',J,rv,q⟩:=hs;exact fin J rv q
 |next=>
  obtain ⟨σ',H',J,q⟩:=hs;exact fin (v:=V.non) (u:=Value.none) J rfl q
 |brk=>
  obtain ⟨_,_,_,q⟩:=hs;exact False.elim q
 |cont=>
  obtain ⟨_,_,_,q⟩:=hs;exact False.elim q
open PySem PySem.Spec PyProof.Rows
section
variable {X:Cx} {x:Str} {p pos:Pos} {e:Expr} {es:List Expr} {t:TA} {id T:String} {r:List V->Hp->VK->Prop}
def tCB (r:List V->Hp->VK->Prop) (t:TA):TE:=fun σ H Q=>t σ H fun vs H1=>r vs H1 Q
theorem av (hc:ck X (.builtin id) r) (hg:Gl X x) (hm:X.mg x=none) (hv:bootBuiltins x=some (.builtin id)) (ha:PA X (e::es) t) (hn:x≠"__name__":=by decide) (hdb:(x==("__debug__":Str))=false:=by decide)
 (he:starEach (e::es) X.env=(false,eval e X.env)::starEach es X.env:=by rfl) (hpl:(backTo pos (starEach es X.env)).any (·.1)=false:=by rfl):PE X (.Call (.Name x p) (e::es) [] pos) (tCB r t):=by
 intro pins s σ H Q I h;refine wpAny_Call_Name_kw (fk I hg hm hv ?_ hn hdb);exact PyProof.Rows.callWith_builtin1 (thn (ha pos pins s σ H _ I h) fun us s1 ⟨vs,H1,I1,r1,q1⟩=>hc pins s1 σ H1 vs us Q I1 r1 q1) he hpl
theorem bQ (hc:ck X (.type T) r) (hg:Gl X x) (hm:X.mg x=none) (hv:bootBuiltins x=some (.type T)) (ha:PA X (e::es) t) (hn:x≠"__name__":=by decide) (hdb:(x==("__debug__":Str))=false:=by decide)
 (he:starEach (e::es) X.env=(false,eval e X.env)::starEach es X.env:=by rfl) (hpl:(backTo pos (starEach es X.env)).any (·.1)=false:=by rfl):PE X (.Call (.Name x p) (e::es) [] pos) (tCB r t):=by
 intro pins s σ H Q I h;refine wpAny_Call_Name_kw (fk I hg hm hv ?_ hn hdb);exact PyProof.Rows.callWith_type1 (thn (ha pos pins s σ H _ I h) fun us s1 ⟨vs,H1,I1,r1,q1⟩=>hc pins s1 σ H1 vs us Q I1 r1 q1) he hpl
end
end L2
namespace HT
open PySem PyProof.Rows
section
open PySem.SeqAt
open PySem.AutoSeq1 (wpAny_loadPart')
open PySem.MeetsSeq PySem.MeetsSeq2 PySem.MeetsSeq3
end
section
variable {prog:Program} {w:World} {A:Around} {E:Value->Shared->Prop} {s:Shared}
noncomputable def sIx (n d:Nat):Option Int->Nat
 |none=>d
 |some v=>if v < 0 then (v+(n:Int)).toNat else min v.toNat n
theorem sIx_none (n d:Nat):sIx n d none=d:=rfl
theorem sIx_nat (n d k:Nat):sIx n d (some (k:Int))=min k n:=by
 show (if (k:Int) < 0 then ((k:Int)+(n:Int)).toNat else min (k:Int).toNat n)=min k n;rw [if_neg (by omega),zp]
end
end HT
namespace L2
open PySem PySem.Spec PyProof.Rows
abbrev TO:=St->Hp->(Option Int->Hp->Prop)->Prop
def PO (X:Cx) (e:Option Expr) (t:TO):Prop:=
 ∀(pins:List (Addr×Obj)) (s:Shared) (σ:St) (H:Hp) (Q:Option Int->Hp->Prop),Inv X pins σ H s->t σ H Q->
  wpAny (model X.prog X.w) X.A (evalPart e X.env) (fun u s'=>∃o H',Inv X pins σ H' s'/\IsPart u o/\Q o H') X.xe s
def tP:TO:=fun _ H Q=>Q none H
def xp (t:TE):TO:=fun σ H Q=>t σ H fun x H1=>∃i,x= .int i/\Q (some i) H1
theorem lB {ns:List Int}:∀ {us:List Value},Vals (ns.map V.int) us->IntsAre us ns:=by
 induction ns with
 |nil=>intro us r;rw [zH] at r;cases r;exact .nil
 |cons n ns ih=>
  intro us r;rw [yG] at r
  cases r with
  |cons r1 r2=>
   obtain ⟨t,e⟩:=r1;subst e;exact .cons n t (ih r2)
section
variable {X:Cx} {e:Expr} {te:TE} {lo hi:Option Expr} {tl th:TO} {pos p2:Pos}
theorem iX:PO X none tP:=by
 intro pins s σ H Q I h;rw [evalPart_none];exact wpAny_pure ⟨none,H,I, .none,h⟩
theorem iW (h:PE X e te):PO X (some e) (xp te):=by
 intro pins s σ H Q I hw;rw [evalPart_some];refine thn (h pins s σ H _ I hw) fun u s1 ⟨x,H1,I1,r1,q1⟩=> ?_;obtain ⟨i,rfl,q⟩:=q1;obtain ⟨t,rfl⟩:=r1;exact ⟨some i,H1,I1, .int i t,q⟩
def SlR (X:Cx) (r:V->Option Int->Option Int->Hp->VK->Prop):Prop:=
 ∀(pins:List (Addr×Obj)) (s:Shared) (σ:St) (H:Hp) (x:V) (v vl vu:Value) (lo hi:Option Int) (sl:Addr) (Q:VK),Inv X pins σ H s->RelV x v->s.heap.IsSliceOf sl vl vu .none->IsPart vl lo->IsPart vu hi->r x lo hi H Q->
  ∃T id,typeLookup (.type T) "__getitem__"=pure (some (.builtin id))/\s.TypeIs v T/\wpAny (model X.prog X.w) X.A (getItem v (.ref sl)) (EP X pins σ Q) X.xe s
def tSl (r:V->Option Int->Option Int->Hp->VK->Prop) (te:TE) (tl th:TO):TE:=fun σ H Q=>te σ H fun x H1=>tl σ H1 fun l H2=>th σ H2 fun u H3=>r x l u H3 Q
theorem gH {r:V->Option Int->Option Int->Hp->VK->Prop} (hr:SlR X r) (he:PE X e te) (hl:PO X lo tl) (hu:PO X hi th):PE X (.Subscript e (.Slice lo hi none p2) pos) (tSl r te tl th):=by
 intro pins s σ H Q I h;refine Subscript_ (thn (he pins s σ H _ I h) fun v s1 ⟨x,H1,I1,r1,q1⟩=> ?_);refine wpAny_Slice (thn (hl pins s1 σ H1 _ I1 q1) fun vl s2 ⟨l,H2,I2,pl,q2⟩=>thn (hu pins s2 σ H2 _ I2 q2) fun vu s3 ⟨u,H3,I3,pu,q3⟩=> ?_);rw [evalPart_none];refine wpAny_pure ?_;have I4:Inv X pins σ H3 {s3 with heap:=s3.heap.push {cls:= .type "slice",data:= .fields #[vl,vu, .none]}}:=I3.kept (t':=s3.toks) fun b ob q=>Heap.get?_push_of_some _ q;obtain ⟨T,id,hT,ht,hg⟩:=hr pins {s3 with heap:=s3.heap.push {cls:= .type "slice",data:= .fields #[vl,vu, .none]}} σ H3 x v vl vu l u s3.heap.objs.size Q I4 r1 (Heap.IsSliceOf.new ..) pl pu q3;show wpAny (model X.prog X.w) X.A (subscriptTail e (.Slice lo hi none p2) v (.ref s3.heap.objs.size)) (EP X pins σ Q) X.xe {s3 with heap:=s3.heap.push {cls:= .type "slice",data:= .fields #[vl,vu, .none]}};exact tail_any (ops:= [.ref s3.heap.objs.size,v]) ht hT hg (by with_unfolding_all rfl)
noncomputable def cutV (xs:List V) (lo hi:Option Int):List V:=(xs.drop (HT.sIx xs.length 0 lo)).take (HT.sIx xs.length xs.length hi - HT.sIx xs.length 0 lo)
theorem ka (xs:List V) (lo hi:Option Int):(cutV xs lo hi).length<=xs.length:=by
 unfold cutV;rw [yS,List.length_drop];omega
end
open PySem PySem.Spec PyProof.Rows
noncomputable def ixN (n:Nat) (i:Int):Option Nat:=if 0<=i then (if i < n then some i.toNat else none) else if -(n:Int)<=i then some (i+n).toNat else none
noncomputable def atI {α:Type} (xs:List α) (i:Int):Option α:=(ixN xs.length i).bind fun j=>xs[j]?
theorem mX {n:Nat} {i:Int} {j:Nat} (h:ixN n i=some j):seqIndex? i n=some j/\j < n/\ -(n:Int)<=i/\i < n:=by
 unfold ixN at h;by_cases h0:0<=i
 . rw [if_pos h0] at h;by_cases h1:i < n
   . rw [if_pos h1] at h;have e:i.toNat=j:=yF h;exact ⟨by rw [seqIndex_of h0 h1,e],by omega,by omega,h1⟩
   . rw [if_neg h1] at h;cases h
 . rw [if_neg h0] at h;by_cases h1:-(n:Int)<=i
   . rw [if_pos h1] at h;have e:(i+n).toNat=j:=yF h;exact ⟨by rw [seqIndex_neg (by omega) h1,e],by omega,h1,by omega⟩
   . rw [if_neg h1] at h;cases h
theorem ju {α:Type} {xs:List α} {i:Int} {v:α} (h:atI xs i=some v):∃j,seqIndex? i xs.length=some j/\xs[j]?=some v/\j < xs.length/\ -(xs.length:Int)<=i/\i < xs.length:=by
 unfold atI at h
 cases e:ixN xs.length i with
 |none=>rw [e] at h;cases h
 |some j=>
  rw [e] at h;obtain ⟨h1,h2,h3,h4⟩:=mX e;exact ⟨j,h1,h,h2,h3,h4⟩
theorem aw {α:Type} {xs:List α} {j:Nat} {v:α} (h:xs[j]?=some v):atI xs (j:Int)=some v:=by
 have hj:j < xs.length:=(yt.mp h).1
 have e:ixN xs.length (j:Int)=some j:=by
  unfold ixN;rw [if_pos (by omega),if_pos (by omega)];simp
 unfold atI;rw [e];exact h
def uO (b:Expr):Prop:=∀o i,subscripted b false o i=operate [o,i] (getItem o i)
def IxR (X:Cx) (r:R2):Prop:=
 ∀(value slice:Expr) (pins:List (Addr×Obj)) (s:Shared) (σ:St) (H:Hp) (x y:V) (v u:Value) (Q:VK),Inv X pins σ H s->RelV x v->RelV y u->r x y H Q->
  subscripted slice false v u=operate [v,u] (getItem v u)->wpAny (model X.prog X.w) X.A (subscriptTail value slice v u) (EP X pins σ Q) X.xe s
def MtR (X:Cx) (id:String) (r:V->List V->Hp->VK->Prop):Prop:=
 ∀(pins:List (Addr×Obj)) (s:Shared) (σ:St) (H:Hp) (x:V) (xs:List V) (v:Value) (us:List Value) (Q:VK),Inv X pins σ H s->RelV x v->Vals xs us->r x xs H Q->
  wpAny (model X.prog X.w) X.A (call (.builtin id) (v::us)) (EP X pins σ Q) X.xe s
section
variable {X:Cx} {a b:Expr} {ta tb:TE} {pos:Pos}
theorem am {r:R2} (hr:IxR X r) (ha:PE X a ta) (hb:PE X b tb) (hs:uO b):PE X (.Subscript a b pos) (tOp r ta tb):=by
 intro pins s σ H Q I h;exact Subscript_ (binT ha hb I h fun v u s2 x y H2 I2 rx ry q=>hr a b pins s2 σ H2 x y v u Q I2 rx ry q (hs _ _))
def rIxL (K:PySem.W.Frag):R2:=fun x y H Q=>∃p xs i v,x= .ref p/\y= .int i/\SqL K H p xs/\atI xs i=some v/\Q v H
def rIxT (K:PySem.W.Frag):R2:=fun x y H Q=>∃p xs i v,x= .ref p/\y= .int i/\SqT K H p xs/\atI xs i=some v/\Q v H
def rIxS:R2:=fun x y H Q=>∃z i c,x= .str z/\y= .int i/\z.length<=sizeLine/\atI z.cps.toList i=some c/\Q (.str ⟨#[c]⟩) H
theorem aq:IxR X (rIxL X.K):=by
 intro value slice pins s σ H x y v u Q I rx ry h hs;obtain ⟨p,xs,i,z,rfl,rfl,hq,he,q⟩:=h;cases rx;obtain ⟨t,rfl⟩:=ry;obtain ⟨its,r,pl,hz⟩:=I.list hq;obtain ⟨j,h1,h2,h3,h4,h5⟩:=ju he;obtain ⟨w,ew,rw'⟩:=r.get h2;have hl:=r.length;have hn:=e6;have fin:EP X pins σ Q w s:=⟨z,H,I,rw',q⟩;by_cases h0:0<=i
 . have hj:i.toNat=j:=by
    rw [seqIndex_of h0 h5] at h1;exact yF h1
   exact item_listR pl.isList h0 (by omega) (by rw [hj];simpa using ew) fin hs
 . have hj:(i+(its.toArray.size:Int)).toNat=j:=by
    rw [seqIndex_neg (by omega) h4] at h1
    rw [yu,<-hl];exact yF h1
   exact subscriptTail_builtinR (x:=w) pl.isList.typeIs slot_list_getitem.lookup
    (wpAny_getItem_list_neg (Q:=fun r s'=>r=w/\EP X pins σ Q r s') pl.isList (by omega) (by rw [yu]<;>omega) (by omega) (by rw [hj];simpa using ew) ⟨rfl,fin⟩) hs
theorem aH:IxR X (rIxT X.K):=by
 intro value slice pins s σ H x y v u Q I rx ry h hs;obtain ⟨p,xs,i,z,rfl,rfl,hq,he,q⟩:=h;cases rx;obtain ⟨t,rfl⟩:=ry;obtain ⟨its,r,pl,hz⟩:=I.tuple hq;obtain ⟨j,h1,h2,h3,h4,h5⟩:=ju he;obtain ⟨w,ew,rw'⟩:=r.get h2;have hl:=r.length;have hn:=e6;have fin:EP X pins σ Q w s:=⟨z,H,I,rw',q⟩
 exact subscriptTail_builtinR (x:=w) pl.typeIs slot_tuple_getitem.lookup
  (getItem_tuple (j:=j) (Q:=fun r s'=>r=w/\EP X pins σ Q r s') pl (by omega) (by omega) (by rw [yu,<-hl];exact h1) (by simpa using ew) ⟨rfl,fin⟩) hs
theorem rW:IxR X rIxS:=by
 intro value slice pins s σ H x y v u Q I rx ry h hs;obtain ⟨z,i,c,rfl,rfl,hz,he,q⟩:=h;obtain ⟨t,rfl⟩:=rx;obtain ⟨t',rfl⟩:=ry;obtain ⟨j,h1,h2,h3,h4,h5⟩:=ju he;have hl:z.cps.toList.length=z.length:=by simp [Str.length]
 rw [hl] at h1 h4 h5;have hn:=e6
 exact tail_any (typeIs_str s z t) slot_str_getitem.lookup (getItem_str (c:=c) (by
  have e1:decide (i < -(2^63:Int))=false:=decide_eq_false (by omega)
  have e2:decide (i>=2^63)=false:=decide_eq_false (by omega)
  rw [e1,e2,Bool.or_false]) (by rw [h1];simpa using h2) ⟨.str ⟨#[c]⟩,H,I.tok _,⟨_,rfl⟩,q⟩) hs
theorem lj (its:List Value) (n j:Nat) (u:Value):Obj.mapSeq (·.setIfInBounds j u) {cls:= .type "list",data:= .seq its.toArray n} = {cls:= .type "list",data:= .seq (its.set j u).toArray n}:=by
 simp [Obj.mapSeq]
theorem Inv.lst {pins:List (Addr×Obj)} {σ:St} {H:Hp} {s:Shared} {p:Addr} {xs:List V} (I:Inv X pins σ H s) (h:H p=some (.lst xs)):
 ∃(its:List Value) (n:Nat),Vals xs its/\s.heap.get? p=some {cls:= .type "list",data:= .seq its.toArray n}/\xs.length<=sizeLine:=by
 obtain ⟨z,its,n,r,e⟩:=I.hok p _ h;exact ⟨its,n,r,e,z⟩
theorem Inv.lstUpd {pins:List (Addr×Obj)} {σ:St} {H:Hp} {s:Shared} {p:Addr} {xs ys:List V} {its its':List Value} {n n':Nat} {f:Obj->Obj} (I:Inv X pins σ H s) (h:H p=some (.lst xs))
 (ho:s.heap.get? p=some {cls:= .type "list",data:= .seq its.toArray n}) (hf:f {cls:= .type "list",data:= .seq its.toArray n} = {cls:= .type "list",data:= .seq its'.toArray n'}) (r:Vals ys its') (hz:ys.length<=sizeLine) (t:Nat):
 Inv X pins σ (upd H p (.lst ys)) {s with heap:=s.heap.update p f,toks:=t}:=by
 have e:(s.heap.update p f).get? p=some {cls:= .type "list",data:= .seq its'.toArray n'}:=by
  rw [Heap.get?_update_self f ho (by rw [hf]<;>rfl),hf]
 refine I.write (x:=p) (e:=p) (by rw [h];trivial) (.inl rfl) (fun b u hb q=>(Heap.get?_update_other _ _ (Ne.symm hb)).trans q) ⟨_,e⟩ ?_
 exact ⟨hz,its',n',r,e⟩
def xL:V->V->V->Hp->(Hp->Prop)->Prop:=fun o i v H Q=>∃p xs k j,o= .ref p/\i= .int k/\H p=some (.lst xs)/\ixN xs.length k=some j/\Q (upd H p (.lst (xs.set j v)))
theorem cS:PSet X xL:=by
 intro pins s σ H o i v ov iv u Q I ro ri rv h;obtain ⟨p,xs,k,j,rfl,rfl,hp,hj,q⟩:=h;cases ro;obtain ⟨t,rfl⟩:=ri;obtain ⟨its,n,r,ho,hz⟩:=I.lst hp;obtain ⟨h1,h2,h3,h4⟩:=mX hj;have hl:=r.length;have hn:=e6
 have I':Inv X pins σ (upd H p (.lst (xs.set j v))) {s with heap:=s.heap.update p (Obj.mapSeq (·.setIfInBounds j u))}:=
  I.lstUpd hp ho (lj its n j u) (r.set rv j) (by rw [List.length_set];exact hz) s.toks
 by_cases h0:0<=k
 . have hk:k.toNat=j:=by
    rw [seqIndex_of h0 h4] at h1;exact yF h1
   exact PySem.W.ki_setAt ho h0 (by omega) (by rw [yu,<-hl];exact h4) (by rw [hk];exact ⟨_,I',q⟩)
 . have hk:(k+(its.toArray.size:Int)).toNat=j:=by
    rw [seqIndex_neg (by omega) h3] at h1
    rw [yu,<-hl];exact yF h1
   exact PySem.W.ki_setBack ho (by omega) (by rw [yu,<-hl];exact h3) (by omega) (by rw [hk];exact ⟨_,I',q⟩)
theorem iQ (lo hi:Option Int) (n:Nat):(sliceBounds lo hi none n).1=((HT.sIx n 0 lo:Nat):Int)/\(sliceBounds lo hi none n).2.1=((HT.sIx n n hi:Nat):Int)/\(sliceBounds lo hi none n).2.2=1:=by
 refine ⟨?_,?_,rfl⟩
 . cases lo with
   |none=>simp [sliceBounds,HT.sIx]
   |some i=>
    simp only [sliceBounds,HT.sIx,Option.getD_none,show (1:Int) > 0 by decide,if_true]
    by_cases h:i < 0
    . simp only [h,if_true]<;>omega
    . simp only [h,if_false]<;>omega
 . cases hi with
   |none=>simp [sliceBounds,HT.sIx]
   |some i=>
    simp only [sliceBounds,HT.sIx,Option.getD_none,show (1:Int) > 0 by decide,if_true]
    by_cases h:i < 0
    . simp only [h,if_true]<;>omega
    . simp only [h,if_false]<;>omega
theorem i3 (its:List Value) (lo hi:Option Int):slicePick its.toArray lo hi none=((its.drop (HT.sIx its.length 0 lo)).take (HT.sIx its.length its.length hi - HT.sIx its.length 0 lo)).toArray:=by
 obtain ⟨h1,h2,h3⟩:=iQ lo hi its.toArray.size;unfold slicePick;rw [h1,h2,h3];simp only [sliceRange_one,pick_run,yu]<;>rfl
def rSlL (K:PySem.W.Frag):V->Option Int->Option Int->Hp->VK->Prop:=fun x lo hi H Q=>∃a xs,x= .ref a/\SqL K H a xs/\∀p,H p=none->Q (.ref p) (upd H p (.lst (cutV xs lo hi)))
theorem iR:SlR X (rSlL X.K):=by
 intro pins s σ H x v vl vu lo hi sl Q I rx hs pl pu h;obtain ⟨a,xs,rfl,hx,q⟩:=h;cases rx;obtain ⟨its,r,ht,hz⟩:=I.list hx;have hlen:=r.length;refine ⟨"list",_,slot_list_getitem.lookup,ht.isList.typeIs,?_⟩;refine wpAny_getItem_list_slice ht.isList hs pl pu .none (by simp) ?_ (by rw [yu]<;>omega)
 rw [i3,<-hlen];refine ⟨.ref s.heap.objs.size,_,I.laid (t':=s.toks) (o:= .lst (cutV xs lo hi)) (fun b ob q=>Heap.get?_push_of_some _ q) (yp _) ?_,rfl,q _ (I.hok.fresh (yp _))⟩;exact ⟨yC (ka xs lo hi) hz,_,0,(r.drop (HT.sIx xs.length 0 lo)).take (HT.sIx xs.length xs.length hi - HT.sIx xs.length 0 lo),Heap.get?_push_size _ rfl⟩
theorem ao:ck X (.builtin "len") (fun xs H Q=>∃p ys,xs= [.ref p]/\(SqL X.K H p ys\/SqT X.K H p ys)/\Q (.int ys.length) H):=by
 intro pins s σ H xs us Q I r h;obtain ⟨p,ys,rfl,hq,q⟩:=h;obtain ⟨u,rfl,rx⟩:=cM r;cases rx;have hn:=e6;rcases hq with hq|hq
 . obtain ⟨its,r',pl,hz⟩:=I.list hq;have hlen:=r'.length;exact Calls.call_len_list pl.isList (by simp only [yu]<;>omega) ⟨.int ys.length,H,I.tok _,⟨s.toks+1,by rw [yu,hlen]⟩,q⟩
 . obtain ⟨its,r',pl,hz⟩:=I.tuple hq;have hlen:=r'.length;exact len_tuple pl (by simp only [yu]<;>omega) ⟨.int ys.length,H,I.tok _,⟨s.toks+1,by rw [yu,hlen]⟩,q⟩
theorem eU:ck X (.type "list") (fun xs H Q=>∃p ys,xs= [.ref p]/\(SqL X.K H p ys\/SqT X.K H p ys)/\∀l,H l=none->Q (.ref l) (upd H l (.lst ys))):=by
 intro pins s σ H xs us Q I r h;obtain ⟨p,ys,rfl,hq,q⟩:=h;obtain ⟨u,rfl,rx⟩:=cM r;cases rx
 have fin:∀(its:List Value),Vals ys its->ys.length<=sizeLine->∀(h':Heap) (c':Nat),(∀b o',s.heap.get? b=some o'->h'.get? b=some o')->
  h'.get? s.heap.objs.size=some {cls:= .type "list",dict:=none,data:= .seq its.toArray c',slots:= #[]}->EP X pins σ Q (.ref s.heap.objs.size) {s with heap:=h'}:=fun its r' hz h' c' kp e=>
  ⟨.ref s.heap.objs.size,_,I.laid (t':=s.toks) kp (yp _) (show ObjOk X.prog X.w _ h' _ (.lst ys) from ⟨hz,its,c',r',e⟩),rfl,q _ (I.hok.fresh (yp _))⟩
 rcases hq with hq|hq
 . obtain ⟨its,r',pl,hz⟩:=I.list hq;have hlen:=r'.length;obtain ⟨o,ho,hc,n,hd⟩:=pl.isList;exact call_list_seq p (.inl rfl) ho hc hd (fun h' c' kp e=>fin its r' hz h' c' kp e) (by simp only [yu]<;>omega)
 . obtain ⟨its,r',pl,hz⟩:=I.tuple hq;have hlen:=r'.length;obtain ⟨o,ho,hc,n,hd⟩:=pl;exact call_list_seq p (.inr rfl) ho hc hd (fun h' c' kp e=>fin its r' hz h' c' kp e) (by simp only [yu]<;>omega)
theorem dY:ck X (.type "tuple") (fun xs H Q=>∃p ys,xs= [.ref p]/\((SqL X.K H p ys/\∀l,H l=none->Q (.ref l) (upd H l (.tup ys)))\/(SqT X.K H p ys/\Q (.ref p) H))):=by
 intro pins s σ H xs us Q I r h;obtain ⟨p,ys,rfl,h⟩:=h;obtain ⟨u,rfl,rx⟩:=cM r;cases rx;rcases h with ⟨hq,q⟩|⟨hq,q⟩
 . obtain ⟨its,r',pl,hz⟩:=I.list hq;have hlen:=r'.length;refine call_tuple_list pl.isList (fun h' kp=> ?_) (by simp only [yu]<;>omega)
   have I1:Inv X pins σ H {s with heap:=h'}:=I.kept (t':=s.toks) kp
   have I2:Inv X pins σ (upd H h'.objs.size (.tup ys)) {s with heap:=h'.push {cls:= .type "tuple",data:= .seq its.toArray}}:=
    I1.laid (t':=s.toks) (fun b o e=>Heap.get?_push_of_some _ e) (yp _) (show ObjOk X.prog X.w _ _ _ (.tup ys) from ⟨hz,its,r',IsTup.new _ _⟩)
   exact ⟨.ref h'.objs.size,_,I2,rfl,q _ (I1.hok.fresh (yp _))⟩
 . obtain ⟨its,r',pl,hz⟩:=I.tuple hq;exact call_tuple_same pl ⟨.ref p,H,I,rfl,q⟩
def tyV (K:PySem.W.Frag) (T:String) (x:V) (H:Hp):Prop:=match x with
 | .str _=>T= "str"
 | .int _=>T= "int"
 | .ref p=>(T= "list"/\∃xs,SqL K H p xs)\/(T= "tuple"/\∃o,K.lookup p=some o/\o.cls= .type "tuple"/\o.dict=none)\/
  (T= "dict"/\((∃kvs,H p=some (.dK kvs))\/∃kvs,H p=some (.dT kvs)))\/(T= "set"/\∃S n,H p=some (.set S n))
 |_=>False
theorem oQ {pins:List (Addr×Obj)} {σ:St} {H:Hp} {s:Shared} {T:String} {x:V} {v:Value} (I:Inv X pins σ H s) (r:RelV x v) (ty:tyV X.K T x H):
 s.TypeIs v T/\∀a,v= .ref a->∃ob,s.heap.get? a=some ob/\ob.dict=none:=by
 cases x with
 |str z=>
  obtain ⟨t,rfl⟩:=r;cases (show T= "str" from ty);exact ⟨typeIs_str s z t,fun _ e=>nomatch e⟩
 |int i=>
  obtain ⟨t,rfl⟩:=r;cases (show T= "int" from ty);exact ⟨typeIs_int s i t,fun _ e=>nomatch e⟩
 |ref p=>
  cases r;rcases ty with ⟨rfl,xs,hq⟩|⟨rfl,o,hk,hc,hd⟩|⟨rfl,hk⟩|⟨rfl,S,n,hk⟩
  . obtain ⟨its,_,pl,_⟩:=I.list hq;refine ⟨pl.isList.typeIs,fun a e=> ?_⟩;cases e;refine hZq fun q_ e_=> ?_;obtain ⟨o,n,e,c,hd,_⟩:=pl;subst e_;exact ⟨o,e,hd⟩
  . refine ⟨⟨o,I.kIn p o hk,hc⟩,fun a e=> ?_⟩;cases e;exact ⟨o,I.kIn _ o hk,hd⟩
  . have z:∃o,s.heap.get? p=some o/\o.ExactDict:=by
     rcases hk with ⟨kvs,hk⟩|⟨kvs,hk⟩
     . refine hZq fun q_ e_=> ?_;obtain ⟨_,_,_,_,o,_,_,e,ex,_⟩:=I.hok p _ hk;subst e_;exact ⟨o,e,ex⟩
     . refine hZq fun q_ e_=> ?_;obtain ⟨_,_,_,_,o,_,_,e,ex,_⟩:=I.hok p _ hk;subst e_;exact ⟨o,e,ex⟩
    obtain ⟨o,e,ex⟩:=z;refine ⟨⟨o,e,ex.1⟩,fun a e2=> ?_⟩;cases e2;exact ⟨o,e,ex.2.1⟩
  . refine hZq fun q_ e_=> ?_;obtain ⟨o,_,_,_,e,ex,_⟩:=I.hok p _ hk;subst e_;refine ⟨⟨o,e,ex.1⟩,fun a e2=> ?_⟩;cases e2;exact ⟨o,e,ex.2.1⟩
 |_=>exact False.elim ty
def tBM0 (K:PySem.W.Frag) (T:String) (r:V->List V->Hp->VK->Prop) (to:TE):TE:=fun σ H Q=>to σ H fun x H1=>tyV K T x H1/\r x [] H1 Q
def tBM (K:PySem.W.Frag) (T:String) (r:V->List V->Hp->VK->Prop) (to:TE) (t:TA):TE:=fun σ H Q=>to σ H fun x H1=>tyV K T x H1/\t σ H1 fun xs H2=>r x xs H2 Q
variable {o e:Expr} {es:List Expr} {to:TE} {t:TA} {name:Str} {apos cpos:Pos} {T id:String} {r:V->List V->Hp->VK->Prop}
theorem vU (pa:PlainAttrs T) (slot:Slot T name id) (hty:typeOf (.builtin id)=pure (.type "method_descriptor")) (hm:MtR X id r) (ho:PE X o to)
 (hbase:attributeBase o name X.env (eval o X.env)=eval o X.env:=by rfl) (hline:(apos.endLine==cpos.line)=true:=by rfl):PE X (.Call (.Attribute o name apos) [] [] cpos) (tBM0 X.K T r to):=by
 intro pins s σ H Q I h;refine wpAny_Call_method0_late hbase hline (thn (ho pins s σ H _ I h) fun v s1 ⟨x,H1,I1,r1,ty,q1⟩=> ?_);obtain ⟨h1,h2⟩:=oQ I1 r1 ty;exact ⟨T,id,pa,slot,hty,h1,h2,Calls.callWith_builtin rfl (PySem.evalArgs_none (hm pins s1 σ H1 x [] v [] Q I1 r1 .nil q1))⟩
theorem ig (pa:PlainAttrs T) (slot:Slot T name id) (hty:typeOf (.builtin id)=pure (.type "method_descriptor")) (hm:MtR X id r) (ho:PE X o to) (ha:PA X (e::es) t)
 (hbase:attributeBase o name X.env (eval o X.env)=eval o X.env:=by rfl)
 (hfew:((backTo cpos (starEach (e::es) X.env)).all (fun x=> !x.1)&& (backToKw cpos (keywordEach [] X.env)).all (fun x=>x.1.isSome)
  &&decide ((e::es).length+([]:List Keyword).length+(if ([]:List Keyword).isEmpty then 0 else 1) < 30))=true:=by rfl)
 (hline:(apos.endLine==cpos.line)=true:=by rfl) (hs:starEach (e::es) X.env=(false,eval e X.env)::starEach es X.env:=by rfl) (hplain:(backTo cpos (starEach es X.env)).any (·.1)=false:=by rfl):
 PE X (.Call (.Attribute o name apos) (e::es) [] cpos) (tBM X.K T r to t):=by
 intro pins s σ H Q I h;refine wpAny_Call_method_late hbase hfew hline rfl (thn (ho pins s σ H _ I h) fun v s1 ⟨x,H1,I1,r1,ty,q1⟩=> ?_);obtain ⟨h1,h2⟩:=oQ I1 r1 ty;refine ⟨T,id,pa,slot,hty,h1,h2,?_⟩;have hA:=ha cpos pins s1 σ H1 _ I1 q1;rw [hs] at hA ⊢;refine Calls.callWith_builtin (by show (false ||(backTo cpos (starEach es X.env)).any (·.1))=false;rw [hplain]<;>rfl) (Calls.evalArgs_plain ?_)
 exact thn hA fun us s2 ⟨vs,H2,I2,r2,q2⟩=>hm pins s2 σ H2 x vs v us Q I2 r1 r2 q2
end
open PySem PySem.Spec PyProof.Rows
def MtM (X:Cx) (id:String) (r:V->List V->Hp->VK->Prop):Prop:=
 ∀(pins:List (Addr×Obj)) (s:Shared) (σ:St) (H:Hp) (x:V) (xs:List V) (v:Value) (us:List Value) (Q:VK),Inv X pins σ H s->RelV x v->Vals xs us->r x xs H Q->
  wpAny (model X.prog X.w) X.A (call (.builtin id) (v::us)) (EP X pins σ Q) X.xe s
theorem Vals.one:∀ {x:V} {us:List Value},Vals [x] us->∃u,us= [u]/\RelV x u
 |_,_, .cons r .nil=>⟨_,rfl,r⟩
theorem Vals.two {x y:V} {us:List Value} (h:Vals [x,y] us):∃u v,us= [u,v]/\RelV x u/\RelV y v:=by
 cases h with
 |cons r t=>cases t with
  |cons q t'=>cases t';exact ⟨_,_,rfl,r,q⟩
theorem Vals.zero:∀ {us:List Value},Vals [] us->us= []
 |_, .nil=>rfl
theorem Vals.reverse {xs:List V} {us:List Value} (h:Vals xs us):Vals xs.reverse us.reverse:=by
 induction h with
 |nil=>exact .nil
 |cons r t ih=>rw [List.reverse_cons,List.reverse_cons];exact Vals.append ih (.cons r .nil)
section
variable {X:Cx} {pins:List (Addr×Obj)} {σ:St} {H:Hp} {s:Shared} {l b:Addr} {xs ys zs:List V}
theorem Inv.lset {its its':List Value} {n:Nat} {f:Array Value->Array Value} {t':Nat} (I:Inv X pins σ H s) (hH:H l=some (.lst xs))
 (e:s.heap.get? l=some {cls:= .type "list",data:= .seq its.toArray n}) (hf:f its.toArray=its'.toArray) (hv:Vals ys its') (hz:ys.length<=sizeLine):
 Inv X pins σ (upd H l (.lst ys)) {s with heap:=s.heap.update l (Obj.mapSeq f),toks:=t'}:=by
 have q:=PySem.IsL.update e f;rw [hf] at q;refine I.write (x:=l) (e:=l) (by rw [hH];exact trivial) (.inl rfl) (fun b' u hb hu=>(Heap.get?_update_other s.heap (Obj.mapSeq f) (Ne.symm hb)).trans hu) ⟨_,q⟩ ?_
 exact ⟨hz,its',_,hv,q⟩
theorem Inv.lnew {its:List Value} {t':Nat} (I:Inv X pins σ H s) (hv:Vals ys its) (hz:ys.length<=sizeLine):
 Inv X pins σ (upd H s.heap.objs.size (.lst ys)) {s with heap:=s.heap.push {cls:= .type "list",data:= .seq its.toArray},toks:=t'}:=
 I.laid (fun _ _ q=>Heap.get?_push_of_some _ q) (yp _) ⟨hz,its,0,hv,Heap.get?_push_size _ rfl⟩
theorem Inv.fresh (I:Inv X pins σ H s):H s.heap.objs.size=none:=I.hok.fresh (yp _)
theorem Inv.lstM (I:Inv X pins σ H s) (hH:H l=some (.lst xs)):xs.length<=sizeLine/\∃(its:List Value) (n:Nat),Vals xs its/\xs.length=its.length/\s.heap.get? l=some {cls:= .type "list",data:= .seq its.toArray n}:=by
 obtain ⟨z,its,n,r,e⟩:=I.hok l _ hH;exact ⟨z,its,n,r,r.length,e⟩
end
section
variable {X:Cx}
def u9:V->List V->Hp->VK->Prop:=fun x vs H Q=>∃l xs y,x= .ref l/\vs= [y]/\H l=some (.lst xs)/\xs.length < sizeLine/\Q .non (upd H l (.lst (xs++ [y])))
theorem cV:MtM X "list.append" u9:=by
 intro pins s σ H x vs v us Q I rx rv h;obtain ⟨l,xs,y,rfl,rfl,hH,hz,q⟩:=h;cases rx;obtain ⟨u,rfl,ru⟩:=rv.one;obtain ⟨z,its,n,r,hl,e⟩:=I.lstM hH;refine call_meets F.slot_list_append ⟨_,e,rfl⟩ F.entry_list_append (F.args_list_append_2 _ _) (PySem.list_append l its.toArray n u (by rw [yu];omega)) ⟨e,?_⟩
 refine ⟨.non,_,I.lset (its':=its++ [u]) hH e (by simp) (r.append (.cons ru .nil)) ?_,rfl,q⟩
 rw [yI,List.length_singleton];omega
def rCat:R2:=fun x y H Q=>∃l b xs zs,x= .ref l/\y= .ref b/\H l=some (.lst xs)/\H b=some (.lst zs)/\xs.length+zs.length<=sizeLine/\∀p,H p=none->Q (.ref p) (upd H p (.lst (xs++zs)))
theorem cJ:OpR X (binaryOp .Add) rCat:=by
 intro pins s σ H x y v u Q I rx ry h;obtain ⟨l,b,xs,zs,rfl,rfl,hH,hB,hz,q⟩:=h;cases rx;cases ry;obtain ⟨z,its,n,r,hl,e⟩:=I.lstM hH;obtain ⟨z2,its2,n2,r2,hl2,e2⟩:=I.lstM hB;refine PySem.P.add_list e e2 ?_ (by rw [yu,yu];omega)
 have ea:its.toArray++its2.toArray=(its++its2).toArray:=by simp
 rw [ea];exact ⟨.ref _,_,I.lnew (t':=s.toks) (r.append r2) (by rw [yI];omega),rfl,q _ I.fresh⟩
end
section
variable {prog:Program} {w:World} {A:Around} {E:Value->Shared->Prop} {s:Shared}
end
section
variable {X:Cx}
end
end L2
namespace Att
open PySem PySem.W PySem.Calls PyProof.Rows
theorem fX {P:Params} {h:Heap}:∀(ns:List Int) (vs:List Value),WellAll P h vs (ns.map WData.int)->IntsAre vs ns:=by
 intro ns
 induction ns with
 |nil=>
  intro vs w;rw [zH] at w;cases w;exact .nil
 |cons n ns ih=>
  intro vs w;rw [yG] at w
  cases w with
  |cons a b=>
   cases a;exact .cons _ _ (ih _ b)
theorem oh {l:OpenLaw} {n:Nat} (hn:l.most=some n) {P:Params} {h:Heap} {args:List WData} {vals:List Value}
 (hpre:l.row.toRowW.claim.pre args=true) (hwl:WellAll P h vals args):
 ∃a vs ns,vals= [Value.ref a]/\args= [WData.list (ns.map WData.int)]/\h.get? a=some {cls:= .type "list",data:= .seq vs.toArray}/\IntsAre vs ns/\ns.length<=n:=by
 have hsh:WShape.hasAll [] args [.list .int]=true:=(pre_splitW hpre).1;have hc:l.pre.holds [] {args:=args} =true:=(pre_splitW hpre).2;refine hZq fun q_ e_=> ?_;obtain ⟨d,r,rfl,h1,h2⟩:=hasAllW_cons hsh;subst e_;obtain rfl:=hasAllW_nil h2;obtain ⟨xs,rfl,h3⟩:=hasW_list h1;obtain ⟨ns,rfl⟩:=items_int h3
 have hlen:ns.length<=n:=by
  unfold OpenLaw.pre at hc
  have h4:(WTm.not (.lt (.lit (.int (n:Int))) (.len (.arg 0)))).holds [] {args:= [.list (ns.map .int)]} =true:=by
   have h4:=(holds_andW hc).1;rw [hn] at h4;exact h4
  have h5:=condW_of h4 (w_not (w_lt w_lit (w_len_list (w_arg rfl))));rw [yi] at h5;refine Nat.le_of_not_lt fun q=> ?_;have q':(n:Int) < ((ns.length:Nat):Int):=by omega
  first
   |(rw [decide_eq_true q'] at h5;exact absurd h5 (by decide))
   |(simp at h5;omega)
 cases hwl with
 |cons w1 w2=>
  cases w2
  cases w1 with
  |list ho hall=>exact ⟨_,_,ns,rfl,rfl,ho,fX ns _ hall,hlen⟩
theorem om (l:OpenLaw) (args:List WData):l.row.toRowW.claim.post args (.bool true) args=true:=
 postW_of (r:=l.row.toRowW) (X:=(true==true))
  (show WShape.has [] (.bool true) .bool=true by first|rfl|decide|simp [WShape.has,WShape.arms,WShape.armsAll])
  (show (WTm.eq .res (.lit (.bool true))).value [] {args:=args,res:=some (.bool true),after:=args} =some (.bool (true==true)) from w_eq_bool (w_res rfl) w_lit) rfl
theorem attach_call {l:OpenLaw} {n:Nat} {q:Program} {loose:List Str} {XP:(Str->Option Value)->Heap->Prop} {YP:World->Heap->Prop} {d:DefRec}
 (hn:l.most=some n) (hdf:d.params.defaults= [])
 (call:∀(w:World) (s₀ s₁:Shared) (mg mb:Str->Option Value) (fa:Addr) (o:Obj) (pm cd doc:Value) (a:Addr) (vs:List Value) (ns:List Int),
  Ground q loose [] XP w s₀ mg mb s₁.heap->YP w s₁.heap->
  s₁.heap.get? fa=some o->o.data= .func (docDef d.name d.params d.body d.scope pm cd doc)->s₁.heap.CodeRec cd d.name->mg d.name=some (.ref fa)->
  s₁.heap.get? a=some {cls:= .type "list",data:= .seq vs.toArray}->IntsAre vs ns->ns.length<=n->s₁.gens= #[]->
  codeAny (model l.prog w) callerA (.call (.ref fa) ⟨[.ref a],[]⟩) (fun r s'=>r= .ok (.ret (.bool true))/\OldK s₁.heap s'.heap/\s'.os=s₁.os/\AllBare s'.gens) s₁):
 WalkO q loose XP YP l.row.toRowW d [] (fun f vs=>PySem.call f vs):=by
 intro w s₀ s₁ mg mb G Y fa o pm cd doc dV kV ho hd hcd hD hmg hg args vals as hpre hlay hrd hwl hlo;obtain rfl:dV= .none:=Dflts.none hD hdf;obtain rfl:kV= .none:=Dflts.noKw hD;obtain ⟨a,vs,ns,rfl,rfl,hobj,hints,hlen⟩:=oh hn hpre hwl;refine enter_call (codeAny_mono (call w s₀ s₁ mg mb fa o pm cd doc a vs ns G Y ho (fd_plain hd) hcd hmg hobj hints hlen hg) fun r s' hq=> ?_);obtain ⟨rfl,h2,h3,h4⟩:=hq;exact ⟨.inl ⟨.bool true, .bool true,[],rfl,fun _=>rfl, .bool true,om l _,fun _=>⟨List.Pairwise.nil,fun _ hm=>(nomatch hm)⟩⟩,h2,h3,h4⟩
section
variable {prog:Program} {w:World} {A:Around} {E:Value->Shared->Prop} {s:Shared} {K:Frag}
end
end Att
namespace L2
open PySem PySem.Spec PyProof.Rows
theorem i5:∀ {vs:List Value} {ns:List Int},IntsAre vs ns->Vals (ns.map V.int) vs
 |_,_, .nil=> .nil
 |_,_, .cons n t h=> .cons ⟨t,rfl⟩ (i5 h)
def Only (H:Hp):Prop:=∀b,H b=none\/∃o xs,H b=some (.frz o (.lst xs))
open PySem PySem.Spec PyProof.Rows
open PySem PySem.Spec PyProof.Rows
noncomputable def uB (s:Stmt) (j:Nat):Stmt:=match s with
 | .ClassDef _ _ _ body _ _ _ _ _ _ _=>body.getD j (.Pass ⟨0,0,0,0⟩)
 |_=> .Pass ⟨0,0,0,0⟩
noncomputable def b9 (s:Stmt):Arguments:=match s with
 | .FunctionDef _ a _ _ _ _ _ _ _ _=>a
 |_=> {posonlyargs:= [],args:= [],vararg:=none,kwonlyargs:= [],kw_defaults:= [],kwarg:=none,defaults:= []}
noncomputable def aQ (s:Stmt):List Stmt:=match s with
 | .FunctionDef _ _ b _ _ _ _ _ _ _=>b
 |_=> []
noncomputable def af (s:Stmt):Scope:=match s with
 | .FunctionDef _ _ _ _ _ _ sc _ _ _=>sc
 |_=> {kind:= .function,names:= [],isGenerator:=false,isCoroutine:=false}
abbrev CX0:CXT:=fun _ _ _ _ _ _=>False
abbrev E0:XK:=fun _ _ _=>False
theorem ax {X:Cx}:hX CX0 X E0:=fun _ _ _ _ _ _ _ h=>h.elim
structure Fun (K:PySem.W.Frag) (x qual:Str) (st:Stmt) (f:Addr) (fd:FuncData):Prop where
 ex:∃(oc:Value) (od:Option Addr) (kV doc pm:Value) (an:Option Addr) (cdv ct:Value) (osl:Array (Option Value)),
  fd=PySem.W.fnOf x qual (b9 st) (aQ st) (af st) .none kV doc pm an cdv ct/\K.lookup f=some ⟨oc,od, .func fd,osl⟩/\PySem.W.codeIn K cdv qual=true
 kp:PySem.W.keepIn K (.ref f)=true
section
variable {P:Program} {w:World} {K:PySem.W.Frag} {mg:Str->Option Value} {base:Heap}
theorem Fun.ok {x qual:Str} {st:Stmt} {f:Addr} {fd:FuncData} {N ps:List Str} {k:Nat} {sp:Sp} (F:Fun K x qual st f fd) (S:FnScope N ps (af st)) (len:∀vs H Q E,sp vs H Q E->vs.length=ps.length)
 (hbody:∀(cdv:Value) (A:Around) (outer:List Env) (s:Shared) (H:Hp) (vs:List V) (Q:VK) (E:XK),Room k (A.deeper (envOfC qual (af st) s.heap.objs.size f cdv))->sp vs H Q E->
  ∃t,PSs (cxOf CX0 P w K mg base N qual (af st) f cdv A outer s H E).nox (aQ st) t/\t {nx:=fun _ H'=>Q .non H',rt:=Q} (eJ N vs) H):FnOk P w K mg base CX0 (k+1) f fd ps sp:=by
 obtain ⟨oc,od,kV,doc,pm,an,cdv,ct,osl,rfl,lk,hcd⟩:=F.ex;refine vk lk hcd S len fun A outer s H vs Q E hr hsp=> ?_;obtain ⟨t,h,q⟩:=hbody cdv A outer s H vs Q E hr hsp;exact ⟨t,h.nox,q⟩
theorem Fun.binds {x qual:Str} {st:Stmt} {f:Addr} {fd:FuncData} {ps:List Str} (F:Fun K x qual st f fd)
 (h:∀(kV doc pm:Value) (an:Option Addr) (cdv ct:Value) (us:List Value),us.length=ps.length->bindArgs (PySem.W.fnOf x qual (b9 st) (aQ st) (af st) .none kV doc pm an cdv ct) ⟨us,[]⟩=pure (ps.zip us)):Binds K fd ps []:=by
 obtain ⟨oc,od,kV,doc,pm,an,cdv,ct,osl,rfl,lk,hcd⟩:=F.ex;exact .all (h kV doc pm an cdv ct)
theorem wV {x qual:Str} {st:Stmt} {f:Addr} {oc:Value} {od an:Option Addr} {osl:Array (Option Value)} {kV doc pm cdv ct:Value} (l:K.lookup f=some ⟨oc,od, .func (PySem.W.fnOf x qual (b9 st) (aQ st) (af st) .none kV doc pm an cdv ct),osl⟩)
 (c:PySem.W.codeIn K cdv qual=true) (k:PySem.W.keepIn K (.ref f)=true):Fun K x qual st f (PySem.W.fnOf x qual (b9 st) (aQ st) (af st) .none kV doc pm an cdv ct):=⟨⟨oc,od,kV,doc,pm,an,cdv,ct,osl,rfl,l,c⟩,k⟩
end
theorem ya {A:Around} {k:Nat} (hr:Room k A):A.units+1 < cLine:=yM (zx (by decide:1<=64) _) hr.units
section
variable {X:Cx}
theorem pv (i:Nat) {x:Str} {pos:Pos} (hN:X.N[i]?=some x:=by rfl) (hv:visB X.env.scope x=true:=by rfl) (hd:(x==("__debug__":Str))=false:=by decide)
 (hcd:(x==("__classdict__":Str))=false:=by decide):PE X (.Name x pos) (tVar i):=qZ hN (visB_ok hv) hd hcd
end
theorem iteF {A B:Prop} (h:B):if false=true then A else B:=by
 rw [if_neg yE];exact h
theorem iteT {A B:Prop} (h:A):if true=true then A else B:=by
 rw [if_pos rfl];exact h
theorem ite2 {c A B:Prop} [Decidable c] (h1:c->A) (h2:¬c->B):if c then A else B:=by
 by_cases h:c
 . rw [if_pos h];exact h1 h
 . rw [if_neg h];exact h2 h
def Same (H H':Hp):Prop:=∀b o,H b=some o->H' b=some o
theorem Same.refl (H:Hp):Same H H:=fun _ _ h=>h
theorem Same.trans {H H1 H2:Hp} (a:Same H H1) (b:Same H1 H2):Same H H2:=fun c o h=>b c o (a c o h)
theorem Same.free {H H':Hp} (e:Same H H') {l:Addr} (h:H' l=Option.none):H l=Option.none:=by
 cases q:H l with
 |none=>rfl
 |some o=>
  rw [e l o q] at h;cases h
theorem Same.seq {K:PySem.W.Frag} {H H':Hp} {a:Addr} {xs:List V} (e:Same H H') (h:SqL K H a xs):SqL K H' a xs:=by
 rcases h with (h|⟨o,h⟩)|h
 . exact .inl (.inl (e _ _ h))
 . exact .inl (.inr ⟨o,e _ _ h⟩)
 . exact .inr h
end L2
namespace Srt
open PySem PySem.W PyProof.Rows
structure Ord (lt:Nat->Nat->Bool):Prop where
 asym:∀a b,lt a b=true->lt b a=false
 tr:∀a b c,lt b a=false->lt c b=false->lt c a=false
theorem Ord.refl {lt:Nat->Nat->Bool} (O:Ord lt) (a:Nat):lt a a=false:=by
 cases e:lt a a with
 |false=>rfl
 |true=>exact (O.asym a a e).symm.trans e |>.symm
theorem Ord.up {lt:Nat->Nat->Bool} (O:Ord lt) {a b c:Nat} (h:lt a b=true) (h2:lt c b=false):lt a c=true:=by
 cases e:lt a c with
 |true=>rfl
 |false=>
  have:=O.tr b c a h2 e;rw [h] at this;cases this
def Tri {α:Type} (lt:Nat->Nat->Bool) (N:Nat) (Post:α->Prop):KasT α->Prop
 | .ret a=>Post a
 | .ask i j k=>i < N/\j < N/\Tri lt N Post (k (lt i j))
variable {lt:Nat->Nat->Bool} {N:Nat}
theorem cO {α β:Type} {Post:β->Prop} {f:α->KasT β}:∀ {t:KasT α},Tri lt N (fun a=>Tri lt N Post (f a)) t->Tri lt N Post (t.bind f)
 | .ret a,h=>h
 | .ask i j k,h=>⟨h.1,h.2.1,cO h.2.2⟩
theorem bq {α:Type} {P Q:α->Prop} (hPQ:∀a,P a->Q a):∀ {t:KasT α},Tri lt N P t->Tri lt N Q t
 | .ret a,h=>hPQ a h
 | .ask i j k,h=>⟨h.1,h.2.1,bq hPQ h.2.2⟩
theorem oS {α:Type} {cmp:Nat->Nat->(Bool->Shared->Prop)->Shared->Prop} {G:Shared->Prop} {Post:α->Prop} {Q:α->Shared->Prop}
 (hc:∀i j (R:Bool->Shared->Prop) s,i < N->j < N->G s->(∀s',G s'->R (lt i j) s')->cmp i j R s) (hQ:∀a s,Post a->G s->Q a s):∀ {t:KasT α} {s:Shared},Tri lt N Post t->G s->t.kasWp cmp Q s
 | .ret a,s,h,g=>hQ a s h g
 | .ask i j k,s,h,g=>hc i j _ s h.1 h.2.1 g fun s' g'=>oS hc hQ h.2.2 g'
noncomputable def g (p:Array Nat) (k:Nat):Nat:=p.getD k 0
def Pm (N:Nat) (p:Array Nat):Prop:=p.toList.Perm (List.range N)
theorem Pm.size {p:Array Nat} (h:Pm N p):p.size=N:=by
 have:=h.length_eq;rw [yP,z7] at this;exact this
theorem c9 {p:Array Nat} (k:Nat):g p k=(p[k]?).getD 0:=by
 unfold g;rw [Array.getD_eq_getD_getElem?]
theorem Pm.bd {p:Array Nat} (h:Pm N p) {k:Nat} (hk:k < N):g p k < N:=by
 have hs:=h.size;have:p[k]?=some (p[k]'(by omega)):=yV _
 rw [c9,this];have m:p[k]'(by omega)∈p.toList:=Array.mem_toList_iff.mpr (Array.getElem_mem _)
 exact yX.mp (h.mem_iff.mp m)
theorem Pm.of {p q:Array Nat} (h:Pm N p) (e:q.Perm p):Pm N q:=(Array.perm_iff_toList_perm.mp e).trans h
theorem Pm.rev {p:Array Nat} (h:Pm N p) (i j:Nat):Pm N (kas_rev p i j):=h.of (mirror_perm _ _ _ _)
theorem dX {p:Array Nat} {i j:Nat} (hj:j<=p.size) (k:Nat):g (kas_rev p i j) k=if i<=k/\k < j then g p (i+j - 1 - k) else g p k:=by
 rw [c9];unfold kas_rev;rw [getElem?_mirror_all hj];split<;>rw [c9]
theorem yd {p:Array Nat} {src d:Nat} (hs:src < p.size) (hd:d<=src) (k:Nat):g (bubble p src d) k=if k=src - d then g p src else if src - d < k/\k<=src then g p (k - 1) else g p k:=by
 rw [c9,getElem?_bubble hs d hd];split
 . rw [c9]
 . split<;>rw [c9]
def Up (lt:Nat->Nat->Bool) (p:Array Nat) (n:Nat):Prop:=∀i j,i<=j->j < n->lt (g p j) (g p i)=false
def Dn (lt:Nat->Nat->Bool) (p:Array Nat) (n:Nat):Prop:=∀i j,i<=j->j < n->lt (g p i) (g p j)=false
theorem tF (O:Ord lt) {p:Array Nat} {n:Nat} (h0:1<=n) (h:Up lt p n) (e:lt (g p n) (g p (n - 1))=false):Up lt p (n+1):=by
 intro i j hij hj;by_cases q:j < n
 . exact h i j hij q
 . have ej:j=n:=by omega
   subst ej;by_cases qi:i=j
   . subst qi;exact O.refl _
   . exact O.tr _ _ _ (h i (j - 1) (by omega) (by omega)) e
theorem eP (O:Ord lt) {p:Array Nat} {n:Nat} (h0:1<=n) (h:Dn lt p n) (e:lt (g p (n - 1)) (g p n)=false):Dn lt p (n+1):=by
 intro i j hij hj;by_cases q:j < n
 . exact h i j hij q
 . have ej:j=n:=by omega
   subst ej;by_cases qi:i=j
   . subst qi;exact O.refl _
   . exact O.tr _ _ _ e (h i (j - 1) (by omega) (by omega))
theorem vt {p:Array Nat} {n:Nat} (hn:n<=p.size) (h:Dn lt p n):Up lt (kas_rev p 0 n) n:=by
 intro i j hij hj;rw [dX hn,dX hn,if_pos ⟨yJ _,hj⟩,if_pos ⟨yJ _,by omega⟩]
 exact h _ _ (by omega) (by omega)
theorem pz (O:Ord lt) {p:Array Nat} (hp:Pm N p):∀(f n:Nat),1<=n->n+f<=N->Up lt p n->Tri lt N (fun m=>n<=m/\m<=n+f/\Up lt p m/\(m < n+f->lt (g p m) (g p (m - 1))=true)) (kas_asc p f n)
 |0,n,h1,h2,h=>⟨yp _,yp _,h,fun q=>absurd q (by omega)⟩
 |f+1,n,h1,h2,h=>by
  refine ⟨Pm.bd hp (by omega),Pm.bd hp (by omega),?_⟩
  show Tri lt N _ (if lt (g p n) (g p (n - 1))=true then .ret n else kas_asc p f (n+1));by_cases e:lt (g p n) (g p (n - 1))=true
  . rw [if_pos e];exact ⟨yp _,by omega,h,fun _=>e⟩
  . rw [if_neg e];refine bq (fun m hm=> ?_) (pz O hp f (n+1) (by omega) (by omega) (tF O h1 h (by simpa using e)))
    exact ⟨by omega,by omega,hm.2.2.1,fun q=>hm.2.2.2 (by omega)⟩
def Eqv (lt:Nat->Nat->Bool) (p:Array Nat) (n q:Nat):Prop:=∀k,n - 1 - q<=k->k < n->lt (g p k) (g p (n - 1))=false/\lt (g p (n - 1)) (g p k)=false
theorem k6 (O:Ord lt) {p:Array Nat} {n q:Nat} (hn:n<=p.size) (hq:q+1<=n) (h:Dn lt p n) (he:Eqv lt p n q):Dn lt (kas_rev p (n - (q+1)) n) n:=by
 intro i j hij hj;rw [dX hn,dX hn];by_cases bi:n - (q+1)<=i
 . rw [if_pos ⟨bi,by omega⟩,if_pos ⟨by omega,hj⟩]
   obtain ⟨a1,a2⟩:=he (n - (q+1)+n - 1 - i) (by omega) (by omega)
   obtain ⟨b1,b2⟩:=he (n - (q+1)+n - 1 - j) (by omega) (by omega)
   exact O.tr _ _ _ b2 a1
 . rw [if_neg (by omega)]
   by_cases bj:n - (q+1)<=j
   . rw [if_pos ⟨bj,hj⟩];exact h _ _ (by omega) (by omega)
   . rw [if_neg (by omega)]
     exact h _ _ hij hj
theorem iM (O:Ord lt):∀(f:Nat) (p:Array Nat) (n q:Nat),Pm N p->1<=n->n+f<=N->q+1<=n->Dn lt p n->Eqv lt p n q->
 Tri lt N (fun r=>Pm N r.1/\n<=r.2.1/\r.2.1<=n+f/\r.2.2+1<=r.2.1/\Dn lt r.1 r.2.1/\Eqv lt r.1 r.2.1 r.2.2) (kas_desc f p n q)
 |0,p,n,q,hp,h1,h2,hq,h,he=>⟨hp,yp _,yp _,hq,h,he⟩
 |f+1,p,n,q,hp,h1,h2,hq,h,he=>by
  have hs:=hp.size;refine ⟨Pm.bd hp (by omega),Pm.bd hp (by omega),?_⟩
  show Tri lt N _ (if lt (g p n) (g p (n - 1))=true then (if q > 0 then kas_desc f (kas_rev p (n - (q+1)) n) (n+1) 0 else kas_desc f p (n+1) 0) else .ask (g p (n - 1)) (g p n) fun d=>if d=true then .ret (p,n,q) else kas_desc f p (n+1) (q+1))
  have one:∀p':Array Nat,Eqv lt p' (n+1) 0:=fun p' k k1 k2=>by
   have:k=n:=by omega
   subst this;exact ⟨O.refl _,O.refl _⟩
  by_cases e:lt (g p n) (g p (n - 1))=true
  . rw [if_pos e];have e':=O.asym _ _ e;by_cases q0:q > 0
    . rw [if_pos q0];have d1:=k6 O (by omega) hq h he
      have d2:Dn lt (kas_rev p (n - (q+1)) n) (n+1):=by
       refine eP O h1 d1 ?_;rw [dX (by omega),dX (by omega),if_pos ⟨by omega,by omega⟩,if_neg (by omega)]
       obtain ⟨a1,a2⟩:=he (n - (q+1)+n - 1 - (n - 1)) (by omega) (by omega)
       exact O.tr _ _ _ e' a1
      refine bq (fun r hr=> ?_) (iM O f _ (n+1) 0 (hp.rev _ _) (by omega) (by omega) (by omega) d2 (one _))
      exact ⟨hr.1,by omega,by omega,hr.2.2.2⟩
    . rw [if_neg q0];refine bq (fun r hr=> ?_) (iM O f p (n+1) 0 hp (by omega) (by omega) (by omega) (eP O h1 h e') (one _))
      exact ⟨hr.1,by omega,by omega,hr.2.2.2⟩
  . rw [if_neg e];have e1:lt (g p n) (g p (n - 1))=false:=by simpa using e
    refine ⟨Pm.bd hp (by omega),Pm.bd hp (by omega),?_⟩
    show Tri lt N _ (if lt (g p (n - 1)) (g p n)=true then .ret (p,n,q) else kas_desc f p (n+1) (q+1));by_cases e2:lt (g p (n - 1)) (g p n)=true
    . rw [if_pos e2];exact ⟨hp,yp _,(by show n<=n+(f+1);omega),hq,h,he⟩
    . rw [if_neg e2];have e3:lt (g p (n - 1)) (g p n)=false:=by simpa using e2
      refine bq (fun r hr=> ?_) (iM O f p (n+1) (q+1) hp (by omega) (by omega) (by omega) (eP O h1 h e3) fun k k1 k2=> ?_)
      . exact ⟨hr.1,by omega,by omega,hr.2.2.2⟩
      . show lt (g p k) (g p n)=false/\lt (g p n) (g p k)=false;by_cases kn:k=n
        . subst kn;exact ⟨O.refl _,O.refl _⟩
        . obtain ⟨a1,a2⟩:=he k (by omega) (by omega)
          exact ⟨O.tr _ _ _ e3 a1,O.tr _ _ _ a2 e1⟩
theorem pw (O:Ord lt) {p:Array Nat} {n:Nat} (hp:Pm N p) (h1:1<=n) (hn:n<=N) (h:Dn lt p n):Tri lt N (fun r=>Pm N r.2/\1<=r.1/\r.1<=N/\Up lt r.2 r.1) (kas_tail3 n N p):=by
 unfold kas_tail3;refine cO (bq (fun m hm=> ?_) (pz O (hp.rev 0 n) (N - n) n h1 (by omega) (vt (by rw [hp.size];exact hn) h)))
 exact ⟨hp.rev 0 n,by omega,by omega,hm.2.2.1⟩
theorem gk (O:Ord lt) {p:Array Nat} {n:Nat} (hp:Pm N p) (hn:n+1<=N) (h:Dn lt p (n+1)):Tri lt N (fun r=>Pm N r.2/\1<=r.1/\r.1<=N/\Up lt r.2 r.1) (kas_descPart n N p):=by
 unfold kas_descPart;refine cO (bq (fun r hr=> ?_) (iM O (N - (n+1)) p (n+1) 0 hp (by omega) (by omega) (by omega) h fun k k1 k2=> ?_))
 . obtain ⟨a1,a2,a3,a4,a5,a6⟩:=hr;split
   . exact pw O (a1.rev _ _) (by omega) (by omega) (k6 O (by rw [a1.size];omega) a4 a5 a6)
   . exact pw O a1 (by omega) (by omega) a5
 . have:k=n:=by omega
   subst this;exact ⟨O.refl _,O.refl _⟩
theorem tO (O:Ord lt) {p:Array Nat} (hp:Pm N p) (hN:1<=N):Tri lt N (fun r=>Pm N r.2/\1<=r.1/\r.1<=N/\Up lt r.2 r.1) (kas_count N p):=by
 unfold kas_count
 have u1:Up lt p 1:=fun i j hij hj=>by
  have:i=0:=by omega
  have:j=0:=by omega
  subst_vars
  exact O.refl _
 refine cO (bq (fun n hn=> ?_) (pz O hp (N - 1) 1 (yp _) (by omega) u1))
 obtain ⟨b1,b2,b3,b4⟩:=hn;by_cases e:(n==N)=true
 . rw [if_pos e];exact ⟨hp,b1,by omega,b3⟩
 . rw [if_neg e];have e':n≠N:=by simpa using e
   have l1:=b4 (by omega)
   by_cases n1:n > 1
   . rw [if_pos n1];refine ⟨Pm.bd hp (by omega),Pm.bd hp (by omega),?_⟩
     show Tri lt N _ (if lt (g p 0) (g p (n - 1))=true then .ret (n,p) else kas_descPart n N (kas_rev p 0 n));by_cases e2:lt (g p 0) (g p (n - 1))=true
     . rw [if_pos e2];exact ⟨hp,b1,by omega,b3⟩
     . rw [if_neg e2];have e3:lt (g p 0) (g p (n - 1))=false:=by simpa using e2
       have alike:∀i j,i < n->j < n->lt (g p i) (g p j)=false:=fun i j hi hj=>
        O.tr (g p j) (g p 0) (g p i) (O.tr _ _ _ (b3 j (n - 1) (by omega) (by omega)) e3) (b3 0 i (yJ _) hi)
       have hs:=hp.size;refine gk O (hp.rev 0 n) (by omega) (eP O (by omega) (fun i j hij hj=> ?_) ?_)
       . rw [dX (by omega),dX (by omega),if_pos ⟨yJ _,by omega⟩,if_pos ⟨yJ _,hj⟩]
         exact alike _ _ (by omega) (by omega)
       . rw [dX (by omega),dX (by omega),if_pos ⟨yJ _,by omega⟩,if_neg (by omega)]
         exact O.tr _ _ _ (O.asym _ _ l1) (alike _ _ (by omega) (by omega))
   . rw [if_neg n1];have en:n=1:=by omega
     subst en;refine gk O hp (by omega) (eP O (yp _) (fun i j hij hj=> ?_) (O.asym _ _ l1))
     have:i=0:=by omega
     have:j=0:=by omega
     subst_vars
     exact O.refl _
theorem iL (O:Ord lt) {p:Array Nat} {k:Nat} (hp:Pm N p) (hk:k < N) (h:Up lt p k):∀(f l r:Nat),l<=r->r<=k->r - l<=f->(∀i,i < l->lt (g p k) (g p i)=false)->(∀i,r<=i->i < k->lt (g p k) (g p i)=true)->
 Tri lt N (fun m=>m<=k/\(∀i,i < m->lt (g p k) (g p i)=false)/\∀i,m<=i->i < k->lt (g p k) (g p i)=true) (kas_place p k f l r)
 |0,l,r,h1,h2,h3,a,b=>by
  have:l=r:=by omega
  subst this;exact ⟨h2,a,b⟩
 |f+1,l,r,h1,h2,h3,a,b=>by
  show Tri lt N _ (if l>=r then .ret l else .ask (p.getD k 0) (p.getD ((l+r) / 2) 0) fun c=>if c=true then kas_place p k f l ((l+r) / 2) else kas_place p k f ((l+r) / 2+1) r);by_cases e:l>=r
  . rw [if_pos e];have:l=r:=by omega
    subst this;exact ⟨h2,a,b⟩
  . rw [if_neg e];refine ⟨Pm.bd hp hk,Pm.bd hp (by omega),?_⟩
    show Tri lt N _ (if lt (g p k) (g p ((l+r) / 2))=true then kas_place p k f l ((l+r) / 2) else kas_place p k f ((l+r) / 2+1) r);by_cases c:lt (g p k) (g p ((l+r) / 2))=true
    . rw [if_pos c];refine iL O hp hk h f l ((l+r) / 2) (by omega) (by omega) (by omega) a fun i i1 i2=> ?_
      by_cases q:r<=i
      . exact b i q i2
      . exact O.up c (h _ _ i1 i2)
    . rw [if_neg c];have c':lt (g p k) (g p ((l+r) / 2))=false:=by simpa using c
      refine iL O hp hk h f ((l+r) / 2+1) r (by omega) h2 (by omega) (fun i i1=> ?_) b
      exact O.tr _ _ _ (h i ((l+r) / 2) (by omega) (by omega)) c'
theorem uU (O:Ord lt):∀(f:Nat) (p:Array Nat) (k:Nat),Pm N p->k+f<=N->Up lt p k->Tri lt N (fun q=>Pm N q/\Up lt q (k+f)) (kas_bin f p k)
 |0,p,k,hp,_,h=>⟨hp,h⟩
 |f+1,p,k,hp,hk,h=>by
  have hs:=hp.size;show Tri lt N _ ((kas_place p k k 0 k).bind fun l=>kas_bin f (bubble p k (k - l)) (k+1));refine cO (bq (fun l hl=> ?_) (iL O hp (by omega) h k 0 k (yJ _) (yp _) (by omega) (fun i hi=>absurd hi (by omega)) fun i h1 h2=>absurd h1 (by omega)))
  obtain ⟨l1,l2,l3⟩:=hl;have el:k - (k - l)=l:=by omega
  have hb:∀i,g (bubble p k (k - l)) i=if i=l then g p k else if l < i/\i<=k then g p (i - 1) else g p i:=fun i=>by
   rw [yd (by omega) (by omega),el]
  have u:Up lt (bubble p k (k - l)) (k+1):=by
   intro i j hij hj;rw [hb,hb];by_cases jl:j=l
   . rw [if_pos jl];by_cases il:i=l
     . rw [if_pos il];exact O.refl _
     . rw [if_neg il,if_neg (by omega)]
       exact l2 i (by omega)
   . rw [if_neg jl];by_cases j2:l < j/\j<=k
     . rw [if_pos j2];by_cases il:i=l
       . rw [if_pos il];exact O.asym _ _ (l3 (j - 1) (by omega) (by omega))
       . rw [if_neg il];by_cases i2:l < i/\i<=k
         . rw [if_pos i2];exact h _ _ (by omega) (by omega)
         . rw [if_neg i2];exact h _ _ (by omega) (by omega)
     . rw [if_neg j2,if_neg (by omega),if_neg (by omega)]
       exact h _ _ hij (by omega)
  refine bq (fun q hq=> ?_) (uU O f _ (k+1) (hp.of (bubble_perm _ _ _)) (by omega) u)
  rw [show k+(f+1)=k+1+f by omega]
  exact hq
theorem vD (O:Ord lt) (hN:1<=N):Tri lt N (fun p=>Pm N p/\Up lt p N) (kas_sort N):=by
 unfold kas_sort
 have h0:Pm N (List.toArray (List.range N)):=by
  unfold Pm;simp
 refine cO (bq (fun r hr=> ?_) (tO O h0 hN));obtain ⟨a1,a2,a3,a4⟩:=hr;by_cases e:r.1 < N
 . rw [if_pos e];have em:max r.1 1=r.1:=by omega
   rw [em];have:=uU O (N - r.1) r.2 r.1 a1 (by omega) a4
   rw [show r.1+(N - r.1)=N by omega] at this
   exact this
 . rw [if_neg e];have:r.1=N:=by omega
   rw [this] at a4;exact ⟨a1,a4⟩
end Srt
namespace L2
open PySem
section
variable {M:Model} {prog:Program} {w:World} {A:Around} {E:Value->Shared->Prop} {h:Heap} {g:Array GenState} {d:Drawn} {t:Nat} {os:OsState}
variable {nm q:Str} {C N:Addr} {bs bm bmB:List Value} {hdct:Bool} {sn:List Str} {sub:List Value} {ab:Bool} {col:Option Bool} {dd:Option Addr} {k0 k1 k2 k3 k5:Option Value} {B newId initId:String}
structure Line (B:String) (bm:List Value):Prop where
 own:bm.contains (.type B)=true
 top:bm.contains (.type "BaseException")=true
 attr:bm.contains (.type "AttributeError")=false
 name:bm.contains (.type "NameError")=false
theorem Line.cons {C:Addr} (l:Line B bm):Line B (.ref C::bm):=
 ⟨by rw [List.contains_cons,l.own,Bool.or_true],by rw [List.contains_cons,l.top,Bool.or_true],by rw [List.contains_cons,l.attr];rfl,by rw [List.contains_cons,l.name];rfl⟩
end
end L2
namespace L2
section
open PySem
variable {prog:Program} {w:World} {A:Around} {E:Value->Shared->Prop} {h:Heap} {g:Array GenState} {d:Drawn} {t:Nat} {os:OsState}
variable {nm q:Str} {C N:Addr} {bs bm bmB:List Value} {hdct:Bool} {sn:List Str} {sub:List Value} {ab:Bool} {col:Option Bool} {dd:Option Addr} {k0 k1 k2 k3 k5:Option Value} {B newId nid initId:String}
end
open PySem PySem.Spec PyProof.Rows
section
variable {X:Cx} {CX:CXT} {k:Nat} {f C:Addr} {fd:FuncData} {ps:List Str} {sp:Sp} {E:XK} {x:Str} {p pos apos:Pos} {e:Expr} {es:List Expr} {t:TA}
end
open PySem PySem.Spec PyProof.Rows
section
variable {X:Cx} {C fI:Addr} {E:XK} {pos:Pos} {ce:Expr} {te:TE}
end
end L2
namespace L2
section
open PySem PySem.W Builtin Builtin.ObjectAttr Builtin.Getset_descriptor
variable {prog:Program} {w:World} {A:Around} {E:Value->Shared->Prop} {h:Heap} {g:Array GenState} {d:Drawn} {t:Nat} {os:OsState} {a C:Addr} {o:Obj} {K:Frag}
end
end L2
namespace L2
open PySem PySem.Spec PyProof.Rows
section
variable {X:Cx}
end
open PySem PySem.Spec PyProof.Rows
abbrev TSX:=Ends->XK->St->Hp->Prop
section
variable {X:Cx} {CX:CXT} {k:Nat} {f:Addr} {fd:FuncData} {ps:List Str} {sp:Sp} {x:Str} {p pos epos:Pos} {e:Expr} {es:List Expr} {t:TA}
end
section
variable {X:Cx} {pins:List (Addr×Obj)} {σ:St} {H:Hp} {s:Shared} {a:Addr}
end
section
variable {X:Cx} {body suite:List Stmt} {b0:Stmt} {tb:TSX} {ts:TS} {i:Nat} {n cx:Str} {np hpos pos:Pos} {W:Addr}
end
open PySem PySem.Spec PyProof.Rows
section
variable {X:Cx}
def Big (i:Int):Prop:=i.natAbs < 2^8000
theorem aO:OpR X (binaryOp .Mult) (rI (fun i j=>Big i/\Big j) fun i j=> .int (i*j)):=opI fun _ _ _ _ _ _ _ hc q=>
 PyProof.Rows.mul_int q (IntMulOk.of_le (m:=8000) (n:=8000) (intBits_le_iff.mpr hc.1) (intBits_le_iff.mpr hc.2) (by decide))
theorem sY {i j:Int} (h:Big j):Builtin.divisionGoesByPylong i j=false:=by
 refine PyProof.noPylong_of_log2 ?_;by_cases z:j.natAbs=0
 . rw [z];decide
 . exact Nat.lt_trans ((Nat.log2_lt z).mpr h) (by decide)
theorem cU:OpR X (binaryOp .FloorDiv) (rI (fun _ j=>0 < j/\Big j) fun i j=> .int (i / j)):=opI fun i j _ _ _ _ _ hc q=>by
 have h1:(0:Int) < j:=hc.1;exact floordiv_int (by omega) (by rw [z4 i (by omega)];exact q) (.inl (sY hc.2))
theorem jK:OpR X (binaryOp .FloorDiv) (rI (fun _ j=>j≠0/\Big j) fun i j=> .int (i.fdiv j)):=opI fun _ _ _ _ _ _ _ hc q=>floordiv_int hc.1 q (.inl (sY hc.2))
end
theorem ko:bootBuiltins "abs"=some (.builtin "abs"):=by decide +kernel
open PySem PySem.Spec PyProof.Rows
section
variable {X:Cx}
end
section
variable {X:Cx} {CX:CXT} {k:Nat} {f:Addr} {fd:FuncData} {ps:List Str} {sp:Sp} {x:Str} {p pos rpos:Pos} {e:Expr} {es:List Expr} {t:TA}
end
section
variable {X:Cx} {body suite:List Stmt} {b0:Stmt} {tb:TSX} {ts:TS} {cx:Str} {np hpos pos:Pos} {W:Addr}
end
end L2
namespace Tre
open PySem PySem.Spec PyProof.Rows L2
inductive Tr where
 |non
 |bl (b:Bool)
 |int (i:Int)
 |str (x:Str)
 |tup (ts:List Tr)
 |ls
mutual
noncomputable def Tr.depth:Tr->Nat
 | .tup ts=>Trs.depth ts+1
 |_=>0
noncomputable def Trs.depth:List Tr->Nat
 | []=>0
 |t::ts=>max (Tr.depth t) (Trs.depth ts)
end
mutual
def Tr.pure:Tr->Prop
 | .tup ts=>Trs.pure ts
 | .ls=>False
 |_=>True
def Trs.pure:List Tr->Prop
 | []=>True
 |t::ts=>Tr.pure t/\Trs.pure ts
end
mutual
def TrAt (H:Hp):V->Tr->Prop
 |v, .non=>v= .non
 |v, .bl b=>v= .bl b
 |v, .int i=>v= .int i
 |v, .str x=>v= .str x
 |v, .tup ts=>∃r vs,v= .ref r/\H r=some (.tup vs)/\TrsAt H vs ts
 |v, .ls=>∃r xs,v= .ref r/\H r=some (.lst xs)
def TrsAt (H:Hp):List V->List Tr->Prop
 |vs,[]=>vs= []
 |vs,t::ts=>∃v r,vs=v::r/\TrAt H v t/\TrsAt H r ts
end
structure Kd (H H':Hp):Prop where
 tup:∀a xs,H a=some (.tup xs)->H' a=some (.tup xs)
 lst:∀a xs,H a=some (.lst xs)->∃ys,H' a=some (.lst ys)
theorem Kd.refl (H:Hp):Kd H H:=⟨fun _ _ e=>e,fun _ xs e=>⟨xs,e⟩⟩
theorem Kd.trans {H H1 H2:Hp} (a:Kd H H1) (b:Kd H1 H2):Kd H H2:=⟨fun x o e=>b.tup x o (a.tup x o e),fun x o e=>by
 obtain ⟨ys,e1⟩:=a.lst x o e
 exact b.lst x ys e1⟩
theorem Kd.of_same {H H':Hp} (s:Same H H'):Kd H H':=⟨fun a xs e=>s a _ e,fun a xs e=>⟨xs,s a _ e⟩⟩
theorem Kd.upd {H:Hp} {p:Addr} {xs ys:List V} (h:H p=some (.lst xs)):Kd H (upd H p (.lst ys)):=by
 refine ⟨fun a zs e=> ?_,fun a zs e=> ?_⟩
 . rw [ae]
   . exact e
   . intro z;rw [z,h] at e;cases e
 . by_cases z:a=p
   . subst z;exact ⟨ys,a8⟩
   . exact ⟨zs,(ae z).trans e⟩
mutual
theorem TrAt.mono {H H':Hp} (k:Kd H H'):∀ {v:V} {t:Tr},TrAt H v t->TrAt H' v t
 |v, .non,h=>by unfold TrAt at h ⊢;exact h
 |v, .bl b,h=>by unfold TrAt at h ⊢;exact h
 |v, .int i,h=>by unfold TrAt at h ⊢;exact h
 |v, .str x,h=>by unfold TrAt at h ⊢;exact h
 |v, .ls,h=>by
  unfold TrAt at h ⊢;obtain ⟨r,xs,e,h⟩:=h;obtain ⟨ys,h'⟩:=k.lst r xs h;exact ⟨r,ys,e,h'⟩
 |v, .tup ts,h=>by
  unfold TrAt at h ⊢;obtain ⟨r,vs,e,h1,h2⟩:=h;exact ⟨r,vs,e,k.tup _ _ h1,TrsAt.mono k h2⟩
theorem TrsAt.mono {H H':Hp} (k:Kd H H'):∀ {vs:List V} {ts:List Tr},TrsAt H vs ts->TrsAt H' vs ts
 |vs,[],h=>by unfold TrsAt at h ⊢;exact h
 |vs,t::ts,h=>by
  unfold TrsAt at h ⊢;obtain ⟨v,r,e,h1,h2⟩:=h;exact ⟨v,r,e,TrAt.mono k h1,TrsAt.mono k h2⟩
end
theorem TrsAt.nil {H:Hp}:TrsAt H [] []:=by unfold TrsAt;rfl
theorem TrsAt.cons {H:Hp} {v:V} {t:Tr} {vs:List V} {ts:List Tr} (h:TrAt H v t) (r:TrsAt H vs ts):TrsAt H (v::vs) (t::ts):=by
 unfold TrsAt;exact ⟨v,vs,rfl,h,r⟩
theorem TrsAt.inv {H:Hp} {t:Tr} {vs:List V} {ts:List Tr} (h:TrsAt H vs (t::ts)):∃v r,vs=v::r/\TrAt H v t/\TrsAt H r ts:=by
 unfold TrsAt at h;exact h
theorem TrsAt.len {H:Hp}:∀ {vs:List V} {ts:List Tr},TrsAt H vs ts->vs.length=ts.length
 |vs,[],h=>by
  unfold TrsAt at h;rw [h];rfl
 |vs,t::ts,h=>by
  obtain ⟨v,r,e,_,h2⟩:=h.inv;rw [e,yH,yH,h2.len]
theorem TrsAt.app {H:Hp} {ws:List V} {us:List Tr} (b:TrsAt H ws us):∀ {vs:List V} {ts:List Tr},TrsAt H vs ts->TrsAt H (vs++ws) (ts++us)
 |vs,[],h=>by
  unfold TrsAt at h;subst h;exact b
 |vs,t::ts,h=>by
  obtain ⟨v,r,e,h1,h2⟩:=h.inv;subst e;exact .cons h1 (TrsAt.app b h2)
theorem TrsAt.get {H:Hp}:∀ {vs:List V} {ts:List Tr} {i:Nat} {t:Tr},TrsAt H vs ts->ts[i]?=some t->∃v,vs[i]?=some v/\TrAt H v t
 |vs,[],i,t,_,e=>by simp at e
 |vs,a::ts,0,t,h,e=>by
  obtain ⟨v,r,rfl,h1,h2⟩:=h.inv;simp at e;subst e;exact ⟨v,rfl,h1⟩
 |vs,a::ts,i+1,t,h,e=>by
  obtain ⟨v,r,rfl,h1,h2⟩:=h.inv;obtain ⟨u,e1,e2⟩:=h2.get (i:=i) (by simpa using e)
  exact ⟨u,by simpa using e1,e2⟩
theorem TrsAt.get' {H:Hp} {vs:List V} {ts:List Tr} {i:Nat} {v:V} (h:TrsAt H vs ts) (e:vs[i]?=some v):∃t,ts[i]?=some t/\TrAt H v t:=by
 have hl:=h.len;have hi:i < vs.length:=(yt.mp e).1;obtain ⟨u,e1,e2⟩:=h.get (i:=i) (t:=ts[i]'(by omega)) (yj _)
 rw [e] at e1;cases e1;exact ⟨_,yj _,e2⟩
mutual
theorem TrAt.det {H:Hp}:∀ {v:V} {t u:Tr},TrAt H v t->TrAt H v u->t=u
 |v, .non,u,h1,h2=>by
  unfold TrAt at h1;subst h1;cases u<;>unfold TrAt at h2<;>first|rfl|(cases h2;done)|(obtain ⟨_,_,e,_⟩:=h2;cases e)
 |v, .bl b,u,h1,h2=>by
  unfold TrAt at h1;subst h1;cases u<;>unfold TrAt at h2<;>first|(cases h2;rfl)|(cases h2;done)|(obtain ⟨_,_,e,_⟩:=h2;cases e)
 |v, .int b,u,h1,h2=>by
  unfold TrAt at h1;subst h1;cases u<;>unfold TrAt at h2<;>first|(cases h2;rfl)|(cases h2;done)|(obtain ⟨_,_,e,_⟩:=h2;cases e)
 |v, .str b,u,h1,h2=>by
  unfold TrAt at h1;subst h1;cases u<;>unfold TrAt at h2<;>first|(cases h2;rfl)|(cases h2;done)|(obtain ⟨_,_,e,_⟩:=h2;cases e)
 |v, .ls,u,h1,h2=>by
  unfold TrAt at h1;obtain ⟨r,xs,rfl,h1⟩:=h1;cases u<;>unfold TrAt at h2<;>first|rfl|(cases h2;done)|(obtain ⟨_,_,e,h2,_⟩:=h2;cases e;rw [h1] at h2;cases h2)
 |v, .tup ts, .tup us,h1,h2=>by
  unfold TrAt at h1 h2;obtain ⟨r,vs,rfl,h1,h3⟩:=h1;obtain ⟨r',vs',e,h2,h4⟩:=h2;cases e;rw [h1] at h2;cases h2;rw [TrsAt.det h3 h4]
 |v, .tup ts, .non,h1,h2=>by unfold TrAt at h1 h2;obtain ⟨_,_,e,_⟩:=h1;rw [h2] at e;cases e
 |v, .tup ts, .bl _,h1,h2=>by unfold TrAt at h1 h2;obtain ⟨_,_,e,_⟩:=h1;rw [h2] at e;cases e
 |v, .tup ts, .int _,h1,h2=>by unfold TrAt at h1 h2;obtain ⟨_,_,e,_⟩:=h1;rw [h2] at e;cases e
 |v, .tup ts, .str _,h1,h2=>by unfold TrAt at h1 h2;obtain ⟨_,_,e,_⟩:=h1;rw [h2] at e;cases e
 |v, .tup ts, .ls,h1,h2=>by
  unfold TrAt at h1 h2;obtain ⟨r,vs,rfl,h1,_⟩:=h1;obtain ⟨r',xs,e,h2⟩:=h2;cases e;rw [h1] at h2;cases h2
theorem TrsAt.det {H:Hp}:∀ {vs:List V} {ts us:List Tr},TrsAt H vs ts->TrsAt H vs us->ts=us
 |vs,[],[],_,_=>rfl
 |vs,[],u::us,h1,h2=>by
  have a:=h1.len;have b:=h2.len;rw [a] at b;simp at b
 |vs,t::ts,[],h1,h2=>by
  have a:=h1.len;have b:=h2.len;rw [a] at b;simp at b
 |vs,t::ts,u::us,h1,h2=>by
  obtain ⟨v,r,rfl,h3,h4⟩:=h1.inv;obtain ⟨v',r',e,h5,h6⟩:=h2.inv;cases e;rw [TrAt.det h3 h5,TrsAt.det h4 h6]
end
mutual
noncomputable def eqT:Tr->Tr->Bool
 | .non, .non=>true
 | .bl a, .bl b=>a==b
 | .bl a, .int i=>(if a then 1 else 0)==i
 | .int i, .bl b=>i==(if b then 1 else 0)
 | .int i, .int j=>i==j
 | .str x, .str y=>x==y
 | .tup ts, .tup us=>eqTs ts us
 | .ls, .ls=>true
 |_,_=>false
noncomputable def eqTs:List Tr->List Tr->Bool
 | [],[]=>true
 |t::ts,u::us=>eqT t u&&eqTs ts us
 |_,_=>false
end
mutual
theorem jZ:∀t:Tr,eqT t t=true
 | .non=>by simp [eqT]
 | .bl _=>by simp [eqT]
 | .int _=>by simp [eqT]
 | .str _=>by simp [eqT]
 | .ls=>by simp [eqT]
 | .tup ts=>by simp only [eqT];exact eqTs_refl ts
theorem eqTs_refl:∀ts:List Tr,eqTs ts ts=true
 | []=>by simp [eqTs]
 |t::ts=>by simp [eqTs,jZ t,eqTs_refl ts]
end
noncomputable def eqJ (ts us:List Tr) (j:Nat):Bool:=match ts[j]?,us[j]? with
 |some t,some u=>eqT t u
 |_,_=>true
theorem sw {ts us:List Tr} {j:Nat} {t u:Tr} (h1:ts[j]?=some t) (h2:us[j]?=some u):eqJ ts us j=eqT t u:=by
 unfold eqJ;rw [h1,h2]
theorem eO:∀(ts us:List Tr),eqTs ts us=((List.range (min ts.length us.length)).all (eqJ ts us)&&ts.length==us.length)
 | [],[]=>by simp [eqTs]
 | [],u::us=>by simp [eqTs]
 |t::ts,[]=>by simp [eqTs]
 |t::ts,u::us=>by
  simp only [eqTs,yH];rw [eO ts us,show min (ts.length+1) (us.length+1)=min ts.length us.length+1 by omega,List.range_succ_eq_map,List.all_cons,List.all_map]
  have e:(eqJ (t::ts) (u::us)) ∘ Nat.succ=eqJ ts us:=by
   funext j;simp [eqJ]
  rw [e];simp [eqJ,Bool.and_assoc]
open PySem PySem.Spec PyProof.Rows L2
section
variable {X:Cx} {pins:List (Addr×Obj)} {σ:L2.St} {H:Hp} {s:Shared} {A:Around}
theorem o9 {a b:Addr} {xs ys:List V} (I:Inv X pins σ H s) (ha:H a=some (.tup xs)) (hb:H b=some (.tup ys)) (hu:A.units < cLine) (e:Nat->Bool) (hne:a≠b)
 (he:∀j x y u v,xs[j]?=some x->ys[j]?=some y->RelV x u->RelV y v->SeqAt.EqAt A.in1 s u v (e j)):
 SeqAt.EqAt A s (.ref a) (.ref b) ((List.range (min xs.length ys.length)).all e&&xs.length==ys.length):=by
 obtain ⟨us,r1,p1,_⟩:=I.tuple (SqT.of ha);obtain ⟨ws,r2,p2,_⟩:=I.tuple (SqT.of hb);have l1:=r1.length;have l2:=r2.length
 have:=SeqAt.RcAt.tuples (A:=A) (e:=e) (show s.heap.IsTuple a us.toArray from p1) (show s.heap.IsTuple b ws.toArray from p2) hu fun j h1 h2=>by
  have h1':j < us.length:=by simpa using h1
  have h2':j < ws.length:=by simpa using h2
  obtain ⟨u,e1,q1⟩:=r1.get (i:=j) (x:=xs[j]'(by omega)) (yj _)
  obtain ⟨v,e2,q2⟩:=r2.get (i:=j) (x:=ys[j]'(by omega)) (yj _)
  have z1:us.toArray[j]=u:=by rw [List.getElem_toArray];rw [yj h1'] at e1;exact yF e1
  have z2:ws.toArray[j]=v:=by rw [List.getElem_toArray];rw [yj h2'] at e2;exact yF e2
  rw [z1,z2];exact he j _ _ u v (yj _) (yj _) q1 q2
 rw [yu,yu,<-l1,<-l2] at this;exact SeqAt.EqAt.of_refs hne this
theorem bg:∀ {ts:List Tr} {t:Tr},t∈ts->t.depth<=Trs.depth ts
 |a::ts,t,h=>by
  unfold Trs.depth;rcases yx.mp h with rfl|h
  . omega
  . have:=bg h;omega
theorem dr:∀ {ts:List Tr} {t:Tr},Trs.pure ts->t∈ts->t.pure
 |a::ts,t,p,h=>by
  unfold Trs.pure at p;rcases yx.mp h with rfl|h
  . exact p.1
  . exact dr p.2 h
theorem cP {r:Addr} {vs:List V} (I:Inv X pins σ H s) (h:H r=some (.tup vs)):∃its:Array Value,s.heap.IsTuple r its:=by
 obtain ⟨us,_,p,_⟩:=I.tuple (SqT.of h);exact ⟨_,p⟩
theorem cQ {r:Addr} {vs:List V} (I:Inv X pins σ H s) (h:H r=some (.lst vs)):∃its:Array Value,s.heap.IsList r its:=by
 obtain ⟨us,_,p,_⟩:=I.list (SqL.of h);exact ⟨_,p.isList⟩
theorem m9 (I:Inv X pins σ H s) {A:Around} {t u:Tr} {v w:V} {a b:Value} (hd:∀ts,t≠ .tup ts) (hp:t.pure\/u.pure) (h1:TrAt H v t) (h2:TrAt H w u) (r1:RelV v a) (r2:RelV w b) (hu0:A.units < cLine):SeqAt.EqAt A s a b (eqT t u):=by
 cases t with
 |tup ts=>exact (hd ts rfl).elim
 |non=>
  unfold TrAt at h1;subst h1;cases (show a=Value.none from r1)
  cases u with
  |non=>unfold TrAt at h2;subst h2;cases (show b=Value.none from r2);simp only [eqT];exact SeqAt.EqAt.same _
  |bl c=>unfold TrAt at h2;subst h2;cases (show b=Value.bool c from r2);simp only [eqT];exact SeqAt.EqAt.none_bool c
  |int c=>unfold TrAt at h2;subst h2;obtain ⟨t',rfl⟩:=r2;simp only [eqT];exact SeqAt.EqAt.none_int c t'
  |str c=>unfold TrAt at h2;subst h2;obtain ⟨t',rfl⟩:=r2;simp only [eqT];exact SeqAt.EqAt.none_str c t'
  |tup us=>unfold TrAt at h2;obtain ⟨r,vs,rfl,g1,_⟩:=h2;cases r2;obtain ⟨its,p⟩:=cP I g1;simp only [eqT];exact SeqAt.EqAt.none_tuple p hu0
  |ls=>unfold TrAt at h2;obtain ⟨r,vs,rfl,g1⟩:=h2;cases r2;obtain ⟨its,p⟩:=cQ I g1;simp only [eqT];exact SeqAt.EqAt.none_list p hu0
 |bl d=>
  unfold TrAt at h1;subst h1;cases (show a=Value.bool d from r1)
  cases u with
  |non=>unfold TrAt at h2;subst h2;cases (show b=Value.none from r2);simp only [eqT];exact SeqAt.EqAt.bool_none d
  |bl c=>unfold TrAt at h2;subst h2;cases (show b=Value.bool c from r2);simp only [eqT];exact SeqAt.EqAt.bool_bool d c
  |int c=>unfold TrAt at h2;subst h2;obtain ⟨t',rfl⟩:=r2;simp only [eqT];exact SeqAt.EqAt.bool_int d c t'
  |str c=>unfold TrAt at h2;subst h2;obtain ⟨t',rfl⟩:=r2;simp only [eqT];exact SeqAt.EqAt.bool_str d c t'
  |tup us=>unfold TrAt at h2;obtain ⟨r,vs,rfl,g1,_⟩:=h2;cases r2;obtain ⟨its,p⟩:=cP I g1;simp only [eqT];exact SeqAt.EqAt.bool_tuple d p hu0
  |ls=>unfold TrAt at h2;obtain ⟨r,vs,rfl,g1⟩:=h2;cases r2;obtain ⟨its,p⟩:=cQ I g1;simp only [eqT];exact SeqAt.EqAt.bool_list d p hu0
 |int d=>
  unfold TrAt at h1;subst h1;obtain ⟨t0,rfl⟩:=r1
  cases u with
  |non=>unfold TrAt at h2;subst h2;cases (show b=Value.none from r2);simp only [eqT];exact SeqAt.EqAt.int_none d t0
  |bl c=>unfold TrAt at h2;subst h2;cases (show b=Value.bool c from r2);simp only [eqT];exact SeqAt.EqAt.int_bool d t0 c
  |int c=>unfold TrAt at h2;subst h2;obtain ⟨t',rfl⟩:=r2;simp only [eqT];exact SeqAt.EqAt.int_int d t0 c t'
  |str c=>unfold TrAt at h2;subst h2;obtain ⟨t',rfl⟩:=r2;simp only [eqT];exact SeqAt.EqAt.int_str d t0 c t'
  |tup us=>unfold TrAt at h2;obtain ⟨r,vs,rfl,g1,_⟩:=h2;cases r2;obtain ⟨its,p⟩:=cP I g1;simp only [eqT];exact SeqAt.EqAt.int_tuple d t0 p hu0
  |ls=>unfold TrAt at h2;obtain ⟨r,vs,rfl,g1⟩:=h2;cases r2;obtain ⟨its,p⟩:=cQ I g1;simp only [eqT];exact SeqAt.EqAt.int_list d t0 p hu0
 |str d=>
  unfold TrAt at h1;subst h1;obtain ⟨t0,rfl⟩:=r1
  cases u with
  |non=>unfold TrAt at h2;subst h2;cases (show b=Value.none from r2);simp only [eqT];exact SeqAt.EqAt.str_none d t0
  |bl c=>unfold TrAt at h2;subst h2;cases (show b=Value.bool c from r2);simp only [eqT];exact SeqAt.EqAt.str_bool d t0 c
  |int c=>unfold TrAt at h2;subst h2;obtain ⟨t',rfl⟩:=r2;simp only [eqT];exact SeqAt.EqAt.str_int d t0 c t'
  |str c=>unfold TrAt at h2;subst h2;obtain ⟨t',rfl⟩:=r2;simp only [eqT];exact SeqAt.EqAt.str_str d t0 c t'
  |tup us=>unfold TrAt at h2;obtain ⟨r,vs,rfl,g1,_⟩:=h2;cases r2;obtain ⟨its,p⟩:=cP I g1;simp only [eqT];exact SeqAt.EqAt.str_tuple d t0 p hu0
  |ls=>unfold TrAt at h2;obtain ⟨r,vs,rfl,g1⟩:=h2;cases r2;obtain ⟨its,p⟩:=cQ I g1;simp only [eqT];exact SeqAt.EqAt.str_list d t0 p hu0
 |ls=>
  unfold TrAt at h1;obtain ⟨r0,vs0,rfl,g0⟩:=h1;cases r1;obtain ⟨its0,p0⟩:=cQ I g0
  cases u with
  |non=>unfold TrAt at h2;subst h2;cases (show b=Value.none from r2);simp only [eqT];exact SeqAt.EqAt.list_none p0 hu0
  |bl c=>unfold TrAt at h2;subst h2;cases (show b=Value.bool c from r2);simp only [eqT];exact SeqAt.EqAt.list_bool c p0 hu0
  |int c=>unfold TrAt at h2;subst h2;obtain ⟨t',rfl⟩:=r2;simp only [eqT];exact SeqAt.EqAt.list_int c t' p0 hu0
  |str c=>unfold TrAt at h2;subst h2;obtain ⟨t',rfl⟩:=r2;simp only [eqT];exact SeqAt.EqAt.list_str c t' p0 hu0
  |tup us=>unfold TrAt at h2;obtain ⟨r,vs,rfl,g1,_⟩:=h2;cases r2;obtain ⟨its,p⟩:=cP I g1;simp only [eqT];exact SeqAt.EqAt.list_tuple p0 p hu0
  |ls=>rcases hp with hp|hp<;>simp [Tr.pure] at hp
theorem iJ (I:Inv X pins σ H s):∀(n:Nat) {A:Around} {t u:Tr} {v w:V} {a b:Value},t.depth<=n->(t.pure\/u.pure)->TrAt H v t->TrAt H w u->RelV v a->RelV w b->A.units+n+1 < cLine->SeqAt.EqAt A s a b (eqT t u):=by
 intro n
 induction n with
 |zero=>
  intro A t u v w a b hd hp h1 h2 r1 r2 hu;refine m9 I (fun ts e=> ?_) hp h1 h2 r1 r2 (by omega)
  subst e;simp [Tr.depth] at hd
 |succ n ih=>
  intro A t u v w a b hd hp h1 h2 r1 r2 hu;have hu0:A.units < cLine:=by omega
  cases t with
  |tup ts=>
   have h1':=h1;have h2':=h2;unfold TrAt at h1;obtain ⟨r0,vs0,rfl,g0,k0⟩:=h1;cases r1;obtain ⟨its0,p0⟩:=cP I g0;unfold Tr.depth at hd
   cases u with
   |non=>unfold TrAt at h2;subst h2;cases (show b=Value.none from r2);simp only [eqT];exact SeqAt.EqAt.tuple_none p0 hu0
   |bl c=>unfold TrAt at h2;subst h2;cases (show b=Value.bool c from r2);simp only [eqT];exact SeqAt.EqAt.tuple_bool c p0 hu0
   |int c=>unfold TrAt at h2;subst h2;obtain ⟨t',rfl⟩:=r2;simp only [eqT];exact SeqAt.EqAt.tuple_int c t' p0 hu0
   |str c=>unfold TrAt at h2;subst h2;obtain ⟨t',rfl⟩:=r2;simp only [eqT];exact SeqAt.EqAt.tuple_str c t' p0 hu0
   |ls=>unfold TrAt at h2;obtain ⟨r,vs,rfl,g1⟩:=h2;cases r2;obtain ⟨its,p⟩:=cQ I g1;simp only [eqT];exact SeqAt.EqAt.tuple_list p0 p hu0
   |tup us=>
    unfold TrAt at h2;obtain ⟨r,vs,rfl,g1,k1⟩:=h2;cases r2;by_cases z:r0=r
    . subst z;rw [<-TrAt.det h1' h2',jZ];exact SeqAt.EqAt.same _
    . have:=o9 I g0 g1 hu0 (eqJ ts us) z fun j x y u' v' m1 m2 q1 q2=>by
       obtain ⟨t1,n1,a1⟩:=k0.get' m1;obtain ⟨t2,n2,a2⟩:=k1.get' m2;rw [sw n1 n2];refine ih (A:=A.in1) (by have:=bg (yq n1);omega) ?_ a1 a2 q1 q2 (by show A.units+1+n+1 < cLine;omega)
       rcases hp with hp|hp
       . unfold Tr.pure at hp;exact .inl (dr hp (yq n1))
       . unfold Tr.pure at hp;exact .inr (dr hp (yq n2))
      rw [k0.len,k1.len,<-eO] at this;simp only [eqT];exact this
  |_=>exact m9 I (fun ts e=>by cases e) hp h1 h2 r1 r2 hu0
end
open PySem PySem.Spec PyProof.Rows L2
open PySem.AutoSeq1 (wpAny_loadPart')
def LtAt (A:Around) (s:Shared) (y x:Value) (b:Bool):Prop:=
 ∀(prog:Program) (w:World) (E:Value->Shared->Prop) (Q:Value->Shared->Prop),Q (.bool b) s->wpAny (model prog w) A (richCompare .Lt y x) Q E s
def bv (A:Around) (s:Shared):List Value->List Value->List (Bool×Bool)->Prop
 |v::vs,w::ws,(e,l)::q=>SeqAt.EqAt A s v w e/\(e=false->LtAt A s v w l)/\(e=true->bv A s vs ws q)
 | [],_,q=>q= []
 |_,[],q=>q= []
 |_,_,_=>False
noncomputable def lexV (fin:Bool):List (Bool×Bool)->Bool
 | []=>fin
 |(e,l)::q=>if e=true then lexV fin q else l
theorem iG (l b:Addr) (items items2:Array Value) (n n2:Nat) (dd dd2:Option Addr) (sl sl2:Array (Option Value)) (q:List (Bool×Bool)):
 Meets (Builtin.«tuple.__lt__» ⟨[.ref l, .ref b],[]⟩)
  (fun A R s=>s.heap.get? l=some {cls:= .type "tuple",dict:=dd,data:= .seq items n,slots:=sl}/\s.heap.get? b=some {cls:= .type "tuple",dict:=dd2,data:= .seq items2 n2,slots:=sl2}/\
   bv A.in1 s items.toList items2.toList q/\R (.ok (.ret (.bool (lexV (decide (items.size < items2.size)) q)))) s):=
 .of_wp fun prog w A R s h=>by
  refine hZq fun q_ e_=> ?_;obtain ⟨hp,g,d,tk,os⟩:=s;obtain ⟨hl,hb,hx,h⟩:=h;subst e_;have f2:=AutoSeq1.sub_tuple_tuple
  wp_walk using wpAny_loadPart' hl,wpAny_loadPart' hb,wpAny_forIn_list _ (fun rest b s'=>b.1=none/\s'=⟨hp,g,d,tk,os⟩/\∃(vs ws:List Value) (q':List (Bool×Bool)),rest=vs.zip ws/\
   bv A.in1 ⟨hp,g,d,tk,os⟩ vs ws q'/\R (.ok (.ret (.bool (lexV (decide (items.size < items2.size)) q')))) ⟨hp,g,d,tk,os⟩) _
  case turn=>
   rintro ⟨y,x⟩ rest b s' ⟨hb',rfl,vs,ws,q',hz,hlx,hR⟩
   match vs,ws,q',hz,hlx,hR with
   | [],_,_,hz,_,_=>rw [List.zip_nil_left] at hz;cases hz
   |_::_,[],_,hz,_,_=>rw [List.zip_nil_right] at hz;cases hz
   |v::vs,w'::ws,[],_,hlx,_=>exact hlx.elim
   |v::vs,w'::ws,(e,lo)::q',hz,hlx,hR=>
    rw [zj] at hz;injection hz with hyx hrest;injection hyx with hy hx';subst hy hx';obtain ⟨he,hlt,hlx⟩:=hlx;refine wpAny_bind (he prog w _ _ ?_)
    cases e with
    |true=>
     wp_walk
     exact ⟨rfl,rfl,_,_,_,hrest,hlx rfl,hR⟩
    |false=>
     have hri:=hlt rfl prog w
     wp_walk using hri
     exact ⟨_,rfl,hR⟩
  case fin=>
   rintro ⟨b1,b2⟩ s' ⟨hb',rfl,vs,ws,q',hz,hlx,hR⟩;simp only at hb';subst hb'
   have hq:q'= []:=by
    match vs,ws,q',hz,hlx with
    | [],_,_,_,hlx=>unfold bv at hlx;exact hlx
    |_::_,[],_,_,hlx=>unfold bv at hlx;exact hlx
    |_::_,_::_,_,hz,_=>rw [zj] at hz;cases hz
   subst hq
   wp_walk
   exact ⟨_,rfl,by simpa [Builtin.Tuple.tupleCompareSizes,lexV] using hR⟩
  case h=>
   exact ⟨rfl,rfl,items.toList,items2.toList,q,rfl,hx,h⟩
theorem kz {A:Around} {s:Shared} {l b:Addr} {items items2:Array Value} {q:List (Bool×Bool)} (hl:s.heap.IsTuple l items) (hb:s.heap.IsTuple b items2) (hu:A.units < cLine)
 (hx:bv A.in1 s items.toList items2.toList q):LtAt A s (.ref l) (.ref b) (lexV (decide (items.size < items2.size)) q):=by
 intro prog w E Q h;obtain ⟨⟨cls,dd,data,sl⟩,ho,hc,n,hd⟩:=id hl;obtain ⟨⟨cls2,dd2,data2,sl2⟩,ho2,hc2,n2,hd2⟩:=id hb;simp only at hc hd hc2 hd2;subst hc hd hc2 hd2
 exact richCompare_meets_room (op:= .Lt) ⟨_,ho,rfl⟩ ⟨_,ho2,rfl⟩ PySem.F.slot_tuple_lt PySem.F.entry_tuple_lt (PySem.F.args_tuple_lt_2 _ _) (iG l b items items2 n n2 dd dd2 sl sl2 q)
  ⟨ho,ho2,hx,show Value.bool (lexV (decide (items.size < items2.size)) q)≠Value.notImplemented/\Q (.bool (lexV (decide (items.size < items2.size)) q)) s from ⟨(fun x=>nomatch x),h⟩⟩ hu
end Tre
namespace Tre
open PySem L2
inductive Co where
 |non
 |num (i:Int)
 |str (l:List Nat)
 |tup (cs:List Co)
 |ls
noncomputable def Co.kind:Co->Nat
 | .non=>0
 | .num _=>1
 | .str _=>2
 | .tup _=>3
 | .ls=>4
mutual
noncomputable def code:Tr->Co
 | .non=> .non
 | .bl b=> .num (if b then 1 else 0)
 | .int i=> .num i
 | .str x=> .str x.cps.toList
 | .tup ts=> .tup (codes ts)
 | .ls=> .ls
noncomputable def codes:List Tr->List Co
 | []=> []
 |t::ts=>code t::codes ts
end
theorem eF (x y:Str):((x==y)=true)↔x.cps.toList=y.cps.toList:=by
 rw [beq_iff_eq];constructor
 . rintro rfl;rfl
 . intro h;cases x;cases y;simp only [Str.mk.injEq];exact Array.toList_inj.mp h
mutual
theorem dE:∀(t u:Tr),(eqT t u=true)↔code t=code u
 | .non,u=>by cases u<;>simp [eqT,code]
 | .bl a,u=>by cases u<;>simp [eqT,code];cases a<;>rename_i b<;>cases b<;>simp
 | .int i,u=>by cases u<;>simp [eqT,code]
 | .str x, .str y=>by simp only [eqT,code,Co.str.injEq];exact eF x y
 | .str x, .non=>by simp [eqT,code]
 | .str x, .bl _=>by simp [eqT,code]
 | .str x, .int _=>by simp [eqT,code]
 | .str x, .tup _=>by simp [eqT,code]
 | .str x, .ls=>by simp [eqT,code]
 | .ls,u=>by cases u<;>simp [eqT,code]
 | .tup ts, .tup us=>by simp only [eqT,code,Co.tup.injEq];exact eqTs_code ts us
 | .tup ts, .non=>by simp [eqT,code]
 | .tup ts, .bl _=>by simp [eqT,code]
 | .tup ts, .int _=>by simp [eqT,code]
 | .tup ts, .str _=>by simp [eqT,code]
 | .tup ts, .ls=>by simp [eqT,code]
theorem eqTs_code:∀(ts us:List Tr),(eqTs ts us=true)↔codes ts=codes us
 | [],[]=>by simp [eqTs,codes]
 | [],u::us=>by simp [eqTs,codes]
 |t::ts,[]=>by simp [eqTs,codes]
 |t::ts,u::us=>by
  simp only [eqTs,codes,Bool.and_eq_true,zJ];rw [dE t u,eqTs_code ts us]
end
mutual
def LtC:Co->Co->Prop
 | .num i, .num j=>i < j
 | .str l, .str m=>l < m
 | .tup cs, .tup ds=>LtCs cs ds
 |c,d=>c.kind < d.kind
def LtCs:List Co->List Co->Prop
 | [],[]=>False
 | [],_::_=>True
 |_::_,[]=>False
 |c::cs,d::ds=>LtC c d\/(c=d/\LtCs cs ds)
end
theorem jR {c d:Co} (h:LtC c d):c.kind<=d.kind:=by
 cases c<;>cases d<;>simp [LtC,Co.kind] at h ⊢
theorem jQ {c d:Co} (h:c.kind < d.kind):LtC c d:=by
 cases c<;>cases d<;>simp [LtC,Co.kind] at h ⊢
mutual
theorem j7:∀c:Co,¬LtC c c
 | .non=>by simp [LtC,Co.kind]
 | .num _=>by simp [LtC]
 | .str l=>by simp only [LtC];exact List.lt_irrefl l
 | .tup cs=>by simp only [LtC];exact ltCs_irr cs
 | .ls=>by simp [LtC,Co.kind]
theorem ltCs_irr:∀cs:List Co,¬LtCs cs cs
 | []=>by simp [LtCs]
 |c::cs=>by
  simp only [LtCs,not_or];exact ⟨j7 c,fun h=>ltCs_irr cs h.2⟩
end
mutual
theorem j6:∀c d:Co,LtC c d\/c=d\/LtC d c
 | .num i, .num j=>by simp only [LtC,Co.num.injEq];omega
 | .str l, .str m=>by
  simp only [LtC,Co.str.injEq];by_cases h1:l < m
  . exact .inl h1
  . by_cases h2:m < l
    . exact .inr (.inr h2)
    . exact .inr (.inl (List.le_antisymm (List.not_lt.mp h2) (List.not_lt.mp h1)))
 | .tup cs, .tup ds=>by simp only [LtC,Co.tup.injEq];exact ltCs_tri cs ds
 | .non,d=>by cases d<;>simp [LtC,Co.kind]
 | .ls,d=>by cases d<;>simp [LtC,Co.kind]
 | .num i, .non=>by simp [LtC,Co.kind]
 | .num i, .str _=>by simp [LtC,Co.kind]
 | .num i, .tup _=>by simp [LtC,Co.kind]
 | .num i, .ls=>by simp [LtC,Co.kind]
 | .str i, .non=>by simp [LtC,Co.kind]
 | .str i, .num _=>by simp [LtC,Co.kind]
 | .str i, .tup _=>by simp [LtC,Co.kind]
 | .str i, .ls=>by simp [LtC,Co.kind]
 | .tup i, .non=>by simp [LtC,Co.kind]
 | .tup i, .num _=>by simp [LtC,Co.kind]
 | .tup i, .str _=>by simp [LtC,Co.kind]
 | .tup i, .ls=>by simp [LtC,Co.kind]
theorem ltCs_tri:∀cs ds:List Co,LtCs cs ds\/cs=ds\/LtCs ds cs
 | [],[]=>by simp
 | [],d::ds=>by simp [LtCs]
 |c::cs,[]=>by simp [LtCs]
 |c::cs,d::ds=>by
  simp only [LtCs,zJ];rcases j6 c d with h|h|h
  . exact .inl (.inl h)
  . rcases ltCs_tri cs ds with g|g|g
    . exact .inl (.inr ⟨h,g⟩)
    . exact .inr (.inl ⟨h,g⟩)
    . exact .inr (.inr (.inr ⟨h.symm,g⟩))
  . exact .inr (.inr (.inl h))
end
theorem ar {a b c:Co} (h1:LtC a b) (h2:LtC b c) (hk:a.kind < b.kind\/b.kind < c.kind):LtC a c:=by
 have k1:=jR h1;have k2:=jR h2;exact jQ (by omega)
mutual
theorem fj:∀ {a b c:Co},LtC a b->LtC b c->LtC a c
 | .num i, .num j, .num k,h1,h2=>by simp only [LtC] at *;omega
 | .str i, .str j, .str k,h1,h2=>by simp only [LtC] at *;exact List.lt_trans h1 h2
 | .tup i, .tup j, .tup k,h1,h2=>by simp only [LtC] at *;exact ltCs_trans h1 h2
 | .num _, .num _, .str _,h1,h2=>ar h1 h2 (by simp [LtC,Co.kind] at h1 h2 ⊢)
 | .num _, .num _, .tup _,h1,h2=>ar h1 h2 (by simp [LtC,Co.kind] at h1 h2 ⊢)
 | .num _, .num _, .non,h1,h2=>ar h1 h2 (by simp [LtC,Co.kind] at h1 h2 ⊢)
 | .num _, .num _, .ls,h1,h2=>ar h1 h2 (by simp [LtC,Co.kind] at h1 h2 ⊢)
 | .num _, .str _,_,h1,h2=>ar h1 h2 (by simp [LtC,Co.kind] at h1 h2 ⊢)
 | .num _, .tup _,_,h1,h2=>ar h1 h2 (by simp [LtC,Co.kind] at h1 h2 ⊢)
 | .num _, .non,_,h1,h2=>ar h1 h2 (by simp [LtC,Co.kind] at h1 h2 ⊢)
 | .num _, .ls,_,h1,h2=>ar h1 h2 (by simp [LtC,Co.kind] at h1 h2 ⊢)
 | .str _, .str _, .num _,h1,h2=>ar h1 h2 (by simp [LtC,Co.kind] at h1 h2 ⊢)
 | .str _, .str _, .tup _,h1,h2=>ar h1 h2 (by simp [LtC,Co.kind] at h1 h2 ⊢)
 | .str _, .str _, .non,h1,h2=>ar h1 h2 (by simp [LtC,Co.kind] at h1 h2 ⊢)
 | .str _, .str _, .ls,h1,h2=>ar h1 h2 (by simp [LtC,Co.kind] at h1 h2 ⊢)
 | .str _, .num _,_,h1,h2=>ar h1 h2 (by simp [LtC,Co.kind] at h1 h2 ⊢)
 | .str _, .tup _,_,h1,h2=>ar h1 h2 (by simp [LtC,Co.kind] at h1 h2 ⊢)
 | .str _, .non,_,h1,h2=>ar h1 h2 (by simp [LtC,Co.kind] at h1 h2 ⊢)
 | .str _, .ls,_,h1,h2=>ar h1 h2 (by simp [LtC,Co.kind] at h1 h2 ⊢)
 | .tup _, .tup _, .num _,h1,h2=>ar h1 h2 (by simp [LtC,Co.kind] at h1 h2 ⊢)
 | .tup _, .tup _, .str _,h1,h2=>ar h1 h2 (by simp [LtC,Co.kind] at h1 h2 ⊢)
 | .tup _, .tup _, .non,h1,h2=>ar h1 h2 (by simp [LtC,Co.kind] at h1 h2 ⊢)
 | .tup _, .tup _, .ls,h1,h2=>ar h1 h2 (by simp [LtC,Co.kind] at h1 h2 ⊢)
 | .tup _, .num _,_,h1,h2=>ar h1 h2 (by simp [LtC,Co.kind] at h1 h2 ⊢)
 | .tup _, .str _,_,h1,h2=>ar h1 h2 (by simp [LtC,Co.kind] at h1 h2 ⊢)
 | .tup _, .non,_,h1,h2=>ar h1 h2 (by simp [LtC,Co.kind] at h1 h2 ⊢)
 | .tup _, .ls,_,h1,h2=>ar h1 h2 (by simp [LtC,Co.kind] at h1 h2 ⊢)
 | .non,b,_,h1,h2=>ar h1 h2 (by cases b<;>simp [LtC,Co.kind] at h1 h2 ⊢)
 | .ls,b,_,h1,h2=>ar h1 h2 (by cases b<;>simp [LtC,Co.kind] at h1 h2 ⊢)
theorem ltCs_trans:∀ {a b c:List Co},LtCs a b->LtCs b c->LtCs a c
 | [],[],_,h1,_=>by simp [LtCs] at h1
 | [],_::_,[],_,h2=>by simp [LtCs] at h2
 | [],_::_,_::_,_,_=>by simp [LtCs]
 |_::_,[],_,h1,_=>by simp [LtCs] at h1
 |_::_,_::_,[],_,h2=>by simp [LtCs] at h2
 |x::a,y::b,z::c,h1,h2=>by
  simp only [LtCs] at*;rcases h1 with h1|⟨e1,h1⟩
  . rcases h2 with h2|⟨e2,h2⟩
    . exact .inl (fj h1 h2)
    . exact .inl (e2▸h1)
  . rcases h2 with h2|⟨e2,h2⟩
    . exact .inl (e1▸h2)
    . exact .inr ⟨e1.trans e2,ltCs_trans h1 h2⟩
end
open Classical in
noncomputable def ltT (t u:Tr):Bool:=decide (LtC (code t) (code u))
open Classical in
theorem ltT_iff {t u:Tr}:(ltT t u=true)↔LtC (code t) (code u):=by
 unfold ltT;exact decide_eq_true_iff
theorem dz {t u:Tr} (h:ltT t u=true):ltT u t=false:=by
 cases e:ltT u t with
 |false=>rfl
 |true=>exact absurd (fj (ltT_iff.mp h) (ltT_iff.mp e)) (j7 _)
theorem j5 {a b c:Tr} (h1:ltT b a=false) (h2:ltT c b=false):ltT c a=false:=by
 cases e:ltT c a with
 |false=>rfl
 |true=>
  have n1:¬LtC (code b) (code a):=fun z=>by rw [ltT_iff.mpr z] at h1;cases h1
  have n2:¬LtC (code c) (code b):=fun z=>by rw [ltT_iff.mpr z] at h2;cases h2
  have l:=ltT_iff.mp e;rcases j6 (code a) (code b) with q|q|q
  . exact absurd (fj l q) n2
  . rw [q] at l;exact absurd l n2
  . exact absurd q n1
theorem wF {a b:Tr} (h1:ltT a b=false) (h2:ltT b a=false):eqT a b=true:=by
 rw [dE];rcases j6 (code a) (code b) with q|q|q
 . rw [ltT_iff.mpr q] at h1;cases h1
 . exact q
 . rw [ltT_iff.mpr q] at h2;cases h2
open PySem PySem.Spec PyProof.Rows L2
mutual
def Cm:Tr->Tr->Prop
 | .bl _, .bl _=>True
 | .int _, .int _=>True
 | .str _, .str _=>True
 | .tup ts, .tup us=>Cms ts us
 |_,_=>False
def Cms:List Tr->List Tr->Prop
 |t::ts,u::us=>(eqT t u=true/\Cms ts us)\/(eqT t u=false/\Cm t u)
 | [],_=>True
 |_::_,[]=>True
end
noncomputable def qs:List Tr->List Tr->List (Bool×Bool)
 |t::ts,u::us=>(eqT t u,ltT t u)::qs ts us
 | [],_=> []
 |_::_,[]=> []
theorem dg:∀(ts us:List Tr),(lexV (decide (ts.length < us.length)) (qs ts us)=true)↔LtCs (codes ts) (codes us)
 | [],[]=>by simp [qs,lexV,codes,LtCs]
 | [],u::us=>by simp [qs,lexV,codes,LtCs]
 |t::ts,[]=>by simp [qs,lexV,codes,LtCs]
 |t::ts,u::us=>by
  have ih:=dg ts us;have e:decide ((t::ts).length < (u::us).length)=decide (ts.length < us.length):=by simp
  rw [e];simp only [qs,lexV,codes,LtCs];by_cases h:eqT t u=true
  . rw [if_pos h,ih];have hc:=(dE t u).mp h;rw [hc];constructor
    . intro z;exact .inr ⟨rfl,z⟩
    . rintro (z|⟨_,z⟩)
      . exact absurd z (j7 _)
      . exact z
  . rw [if_neg h];have hc:¬code t=code u:=fun z=>h ((dE t u).mpr z);constructor
    . intro z;exact .inl (ltT_iff.mp z)
    . rintro (z|⟨z,_⟩)
      . exact ltT_iff.mpr z
      . exact absurd z hc
theorem aN {a b:Bool} (h:(a=true)↔(b=true)):a=b:=Bool.eq_iff_iff.mpr h
section
variable {X:Cx} {pins:List (Addr×Obj)} {σ:L2.St} {H:Hp} {s:Shared}
theorem e7 (I:Inv X pins σ H s) {n:Nat} {A:Around} (hu:A.units+n+1 < cLine)
 (ih:∀ {t u:Tr} {v w:V} {a b:Value},t.depth<=n->(t.pure\/u.pure)->Cm t u->TrAt H v t->TrAt H w u->RelV v a->RelV w b->LtAt A s a b (ltT t u)):
 ∀ {ts us:List Tr} {vs ws:List V} {as bs:List Value},Trs.depth ts<=n->(Trs.pure ts\/Trs.pure us)->Cms ts us->TrsAt H vs ts->TrsAt H ws us->Vals vs as->Vals ws bs->bv A s as bs (qs ts us)
 | [],us,vs,ws,as,bs,hd,hp,hc,h1,h2,r1,r2=>by
  unfold TrsAt at h1;subst h1;cases r1;cases us<;>simp [bv,qs]
 |t::ts,[],vs,ws,as,bs,hd,hp,hc,h1,h2,r1,r2=>by
  unfold TrsAt at h2;subst h2;cases r2;obtain ⟨v,r,rfl,_,_⟩:=h1.inv;cases r1;simp [bv,qs]
 |t::ts,u::us,vs,ws,as,bs,hd,hp,hc,h1,h2,r1,r2=>by
  obtain ⟨v,r,rfl,g1,g2⟩:=h1.inv;obtain ⟨v',r',rfl,g3,g4⟩:=h2.inv;unfold Trs.depth at hd
  have hp1:t.pure\/u.pure:=by
   rcases hp with hp|hp<;>unfold Trs.pure at hp
   . exact .inl hp.1
   . exact .inr hp.1
  have hp2:Trs.pure ts\/Trs.pure us:=by
   rcases hp with hp|hp<;>unfold Trs.pure at hp
   . exact .inl hp.2
   . exact .inr hp.2
  cases r1 with
  |cons q1 q2=>
   cases r2 with
   |cons q3 q4=>
    simp only [bv,qs];refine ⟨iJ I n (by omega) hp1 g1 g3 q1 q3 hu,fun e=> ?_,fun e=> ?_⟩
    . unfold Cms at hc;rcases hc with ⟨e',_⟩|⟨_,hc⟩
      . rw [e] at e';cases e'
      . exact ih (by omega) hp1 hc g1 g3 q1 q3
    . unfold Cms at hc;rcases hc with ⟨_,hc⟩|⟨e',_⟩
      . exact e7 I hu ih (by omega) hp2 hc g2 g4 q2 q4
      . rw [e] at e';cases e'
theorem m8 {A:Around} {t u:Tr} {v w:V} {a b:Value} (hd:∀ts,t≠ .tup ts) (hc:Cm t u) (h1:TrAt H v t) (h2:TrAt H w u) (r1:RelV v a) (r2:RelV w b):LtAt A s a b (ltT t u):=by
 cases t<;>cases u<;>unfold Cm at hc<;>first|exact hc.elim|skip
 . rename_i x y;unfold TrAt at h1 h2;subst h1 h2;cases (show a=Value.bool x from r1);cases (show b=Value.bool y from r2);intro prog w' E Q h;refine lt_bool ?_
   have e:decide (b2i x < b2i y)=ltT (.bl x) (.bl y):=by
    refine aN ?_;rw [ltT_iff,decide_eq_true_iff];cases x<;>cases y<;>simp [code,LtC,b2i]
   rw [e];exact h
 . rename_i x y;unfold TrAt at h1 h2;subst h1 h2;obtain ⟨t1,rfl⟩:=r1;obtain ⟨t2,rfl⟩:=r2;intro prog w' E Q h;refine lt_int ?_
   have e:decide (x < y)=ltT (.int x) (.int y):=by
    refine aN ?_;rw [ltT_iff,decide_eq_true_iff];simp [code,LtC]
   rw [e];exact h
 . rename_i x y;unfold TrAt at h1 h2;subst h1 h2;obtain ⟨t1,rfl⟩:=r1;obtain ⟨t2,rfl⟩:=r2;intro prog w' E Q h;refine lt_str ?_
   have e:decide (x.cps.toList < y.cps.toList)=ltT (.str x) (.str y):=by
    refine aN ?_;rw [ltT_iff,decide_eq_true_iff];simp [code,LtC]
   rw [e];exact h
 . exact (hd _ rfl).elim
theorem eA (I:Inv X pins σ H s):∀(n:Nat) {A:Around} {t u:Tr} {v w:V} {a b:Value},t.depth<=n->(t.pure\/u.pure)->Cm t u->TrAt H v t->TrAt H w u->RelV v a->RelV w b->A.units+n+1 < cLine->LtAt A s a b (ltT t u):=by
 intro n
 induction n with
 |zero=>
  intro A t u v w a b hd hp hc h1 h2 r1 r2 hu;refine m8 (fun ts e=> ?_) hc h1 h2 r1 r2;subst e;simp [Tr.depth] at hd
 |succ n ih=>
  intro A t u v w a b hd hp hc h1 h2 r1 r2 hu
  cases t with
  |tup ts=>
   cases u<;>first|(unfold Cm at hc;exact hc.elim)|skip
   rename_i us;unfold Cm at hc;unfold TrAt at h1 h2;obtain ⟨r0,vs0,rfl,g0,k0⟩:=h1;obtain ⟨r,vs,rfl,g1,k1⟩:=h2;cases r1;cases r2;obtain ⟨as,q0,p0,_⟩:=I.tuple (SqT.of g0);obtain ⟨bs,q1,p1,_⟩:=I.tuple (SqT.of g1);unfold Tr.depth at hd
   have hp':Trs.pure ts\/Trs.pure us:=by
    rcases hp with hp|hp<;>unfold Tr.pure at hp
    . exact .inl hp
    . exact .inr hp
   have hu1:A.in1.units+n+1 < cLine:=by show A.units+1+n+1 < cLine;omega
   have hx:=e7 (A:=A.in1) I hu1 (fun d pp cc a1 a2 b1 b2=>ih d pp cc a1 a2 b1 b2 hu1) (by omega) hp' hc k0 k1 q0 q1
   have:=kz (A:=A) (show s.heap.IsTuple r0 as.toArray from p0) (show s.heap.IsTuple r bs.toArray from p1) (by omega) (by simpa using hx)
   have e:lexV (decide (as.toArray.size < bs.toArray.size)) (qs ts us)=ltT (.tup ts) (.tup us):=by
    have l0:=k0.len;have l1:=k1.len;have l2:=q0.length;have l3:=q1.length
    have e2:decide (as.toArray.size < bs.toArray.size)=decide (ts.length < us.length):=by
     rw [yu,yu,<-l2,<-l3,l0,l1]
    rw [e2];refine aN ?_;rw [dg,ltT_iff];simp [code,LtC]
   rw [<-e];exact this
  |_=>exact m8 (fun ts e=>by cases e) hc h1 h2 r1 r2
end
end Tre
namespace Srt
open PySem PySem.W PySem.Calls PyProof.Rows
theorem cC {α:Type} (d:α):∀(vs:List α),(List.range vs.length).map (fun i=>vs.getD i d)=vs
 | []=>rfl
 |v::vs=>by
  rw [yH,List.range_succ_eq_map,yG,zI];have:=cC d vs;simp only [Function.comp_def];show v::List.map (fun i=>vs.getD i d) (List.range vs.length)=v::vs;rw [this]
theorem lR {α:Type}:∀(vs:List α),List.map (fun x=>x.snd) (vs.zip vs)=vs
 | []=>rfl
 |v::vs=>by
  rw [zj,yG,lR vs]
section
variable {prog:Program} {w:World} {A:Around} {E:Value->Shared->Prop} {s:Shared} {lt:Nat->Nat->Bool} {κ:SortKind}
def Stay (s:Shared) (a:Addr) (h':Heap):Prop:=∀b o,b≠a->s.heap.get? b=some o->h'.get? b=some o
theorem dU {a:Addr} {vs:List Value} {n:Nat} {P:PySem.Fin->Shared->Prop} (O:Ord lt) (ho:s.heap.get? a=some (seqObj "list" vs.toArray n)) (h64:vs.length < 64)
 (hkind:2<=vs.length->∀h',Stay s a h'->∀R:SortKind->Shared->Prop,R κ {s with heap:=h'}->wpAny (model prog w) A (keyKind' vs.toArray) R E {s with heap:=h'})
 (hask:∀h',Stay s a h'->∀i j (R:Bool->Shared->Prop),i < vs.length->j < vs.length->R (lt i j) {s with heap:=h'}->kas_ask prog w A κ vs i j R {s with heap:=h'})
 (h:∀p:Array Nat,Pm vs.length p->Up lt p vs.length->P (.done (.ret .none)) {s with heap:=sortedHeap s.heap a vs (List.toArray (p.toList.map fun i=>vs.getD i Value.none))}):
 wpAny (model prog w) A (Builtin.«list.sort» ⟨[.ref a],[]⟩) P E s:=by
 have ha:a < s.heap.objs.size:=Heap.lt_size ho;rw [list_sort_plain];refine wpAny_bind (listItems_at ho rfl ?_);refine wpAny_bind (listUpdate_at ho rfl ?_ (by rw [yu,sizeLine_eq];omega) (yJ _))
 obtain ⟨e1,ho1⟩:∃e1,(s.heap.update a (Obj.mapSeq fun _=>(#[]:Array Value))).get? a=some (seqObj "list" #[] e1):=⟨_,get?_update_seq ho fun _=> #[]⟩;refine wpAny_bind (seqEpoch_at ho1 rfl ?_);refine wpAny_bind (wpAny_newTuple ?_ (by show vs.length<=_;rw [sizeLine_eq];omega))
 refine wpAny_bind (wpAny_newList ?_ (yJ _));refine wpAny_holding ?_;have s1:=Heap.SameBut.update s.heap a (Obj.mapSeq fun _=>(#[]:Array Value))
 have st:Stay s a (((s.heap.update a (Obj.mapSeq fun _=>(#[]:Array Value))).push (seqObj "tuple" vs.toArray 0)).push (seqObj "list" #[] 0)):=fun b o hb e=>
  Heap.get?_push_of_some _ (Heap.get?_push_of_some _ ((s1.2 b hb).trans e))
 have ho6:(((s.heap.update a (Obj.mapSeq fun _=>(#[]:Array Value))).push (seqObj "tuple" vs.toArray 0)).push (seqObj "list" #[] 0)).get? a=some (seqObj "list" #[] e1):=Heap.get?_push_of_some _ (Heap.get?_push_of_some _ ho1);show wpAny (model prog w) A _ P E {s with heap:=((s.heap.update a (Obj.mapSeq fun _=>(#[]:Array Value))).push (seqObj "tuple" vs.toArray 0)).push (seqObj "list" #[] 0)};dsimp only
 have out:∀p:Array Nat,Pm vs.length p->(List.toArray (p.toList.map fun i=>vs.getD i Value.none)).size<=sizeLine:=fun p hp=>by
  rw [yu,yi,yP,hp.size,sizeLine_eq];omega
 by_cases h2:vs.toArray.size < 2
 . rw [if_pos h2,if_pos h2];refine wpAny_bind (wpAny_pure ?_);rw [StateT.run_pure];refine wpAny_bind (wpAny_pure ?_);dsimp only;refine wpAny_bind (seqEpoch_at ho6 rfl ?_)
   have h0:Pm vs.length (List.toArray (List.range vs.length)):=by
    unfold Pm;simp
   have eo:(arrOf (SortSt.mk' general' (vs.toArray.zip vs.toArray) #[] 7 none)).map (·.2)=List.toArray ((List.toArray (List.range vs.length)).toList.map fun i=>vs.getD i Value.none):=by
    rw [zo,cC];show (vs.toArray.zip vs.toArray).map (·.2)=vs.toArray;apply Array.toList_inj.mp;simp;exact lR vs
   rw [eo];refine wpAny_bind (listUpdate_at ho6 rfl ?_ (yJ _) (Nat.le_succ_of_le (out _ h0)));simp only [bne_self_eq_false,zm,if_false];refine wpAny_pure (h _ h0 fun i j hij hj=> ?_);have hv:vs.length < 2:=by simpa using h2
   have:i=j:=by omega
   subst this;exact O.refl _
 . rw [if_neg h2,if_neg h2]
   have h2':2<=vs.length:=by
    rw [yu] at h2;omega
   refine wpAny_bind (hkind h2' _ st _ ?_)
   have run:(kas_sort vs.length).kasWp (kas_ask prog w A κ vs) (fun p s'=>(Pm vs.length p/\Up lt p vs.length)/\s'= {s with heap:=((s.heap.update a (Obj.mapSeq fun _=>(#[]:Array Value))).push (seqObj "tuple" vs.toArray 0)).push (seqObj "list" #[] 0)})
    {s with heap:=((s.heap.update a (Obj.mapSeq fun _=>(#[]:Array Value))).push (seqObj "tuple" vs.toArray 0)).push (seqObj "list" #[] 0)}:=
    oS (lt:=lt) (N:=vs.length) (G:=fun s'=>s'= {s with heap:=((s.heap.update a (Obj.mapSeq fun _=>(#[]:Array Value))).push (seqObj "tuple" vs.toArray 0)).push (seqObj "list" #[] 0)})
     (fun i j R s' hi hj hg hR=>by subst hg;exact hask _ st i j R hi hj (hR _ rfl)) (fun p s' hp hg=>⟨hp,hg⟩) (vD O (by omega)) rfl
   refine wpAny_bind (wpAny_mono (kat_run (ks:=vs) (Q:=fun st' s'=>∃p:Array Nat,(Pm vs.length p/\Up lt p vs.length)/\arrOf st'=p.map (kas_item (vs.toArray.zip vs.toArray))/\failedOf st'=none/\s'= {s with heap:=((s.heap.update a (Obj.mapSeq fun _=>(#[]:Array Value))).push (seqObj "tuple" vs.toArray 0)).push (seqObj "list" #[] 0)})
    rfl h2' h64 (fun p st' s' a1 a2 a3 a4=>⟨p,a4.1,a2,a3,a4.2⟩) run) ?_ fun _ _ e=>e)
   rintro ⟨⟨⟩,st'⟩ s' ⟨p,hp,har,hf,rfl⟩;dsimp only;refine wpAny_bind (seqEpoch_at ho6 rfl ?_);rw [kat_snds rfl har];refine wpAny_bind (listUpdate_at ho6 rfl ?_ (yJ _) (Nat.le_succ_of_le (out p hp.1)));rw [hf];simp only [bne_self_eq_false,zm,if_false];exact wpAny_pure (h p hp.1 hp.2)
theorem kQ {l:Addr} {vs:List Value} {Q:Value->Shared->Prop} (O:Ord lt) (hl:s.heap.IsList l vs.toArray) (h64:vs.length < 64)
 (hkind:2<=vs.length->∀h',(∀b o,s.heap.get? b=some o->h'.get? b=some o)->∀(E':Value->Shared->Prop) (R:SortKind->Shared->Prop),R κ {s with heap:=h'}->wpAny (model prog w) A.in1.in1 (keyKind' vs.toArray) R E' {s with heap:=h'})
 (hask:∀h',(∀b o,s.heap.get? b=some o->h'.get? b=some o)->∀i j (R:Bool->Shared->Prop),i < vs.length->j < vs.length->R (lt i j) {s with heap:=h'}->kas_ask prog w A.in1.in1 κ vs i j R {s with heap:=h'})
 (h:∀p:Array Nat,Pm vs.length p->Up lt p vs.length->Q (.ref (s.heap.objs.size+1)) {s with heap:=sortedAll s.heap vs (List.toArray (p.toList.map fun i=>vs.getD i Value.none))}):
 wpAny (model prog w) A (call (.builtin "sorted") [.ref l]) Q E s:=by
 refine Calls.call_function_entry kind_sorted plain_sorted entry_sorted (args_sorted1 _) ?_;unfold Builtin.«sorted»;refine wpAny_bind (m:=checkCount "sorted" 1 1 _) (wpAny_pure ?_);refine wpAny_bind (collect_list hl ?_ (by rw [sizeLine_eq];omega))
 refine wpAny_bind (wpAny_newList ?_ (by rw [sizeLine_eq];omega))
 have hsz:((s.heap.push (seqObj "list" #[] 0)).update s.heap.objs.size (Obj.mapSeq (· ++vs.toArray))).objs.size=s.heap.objs.size+1:=by
  rw [Heap.size_update,size_push']
 have hoL:(((s.heap.push (seqObj "list" #[] 0)).update s.heap.objs.size (Obj.mapSeq (· ++vs.toArray))).push (seqObj "list" vs.toArray 0)).get? (s.heap.objs.size+1)=some (seqObj "list" vs.toArray 0):=by
  rw [<-hsz];exact Heap.get?_push_size _ rfl
 have keep:∀b o,s.heap.get? b=some o->(((s.heap.push (seqObj "list" #[] 0)).update s.heap.objs.size (Obj.mapSeq (· ++vs.toArray))).push (seqObj "list" vs.toArray 0)).get? b=some o/\b≠s.heap.objs.size+1:=fun b o q=>by
  have hlt:b < s.heap.objs.size:=Heap.lt_size q;refine ⟨?_,yA (zc hlt)⟩;rw [Heap.get?_push_ne _ _ _ (by rw [hsz];exact yA (zc hlt)),Heap.get?_update_ne _ _ _ _ (yA hlt),Heap.get?_push_ne _ _ _ (yA hlt)]
  exact q
 show wpAny _ _ _ _ _ {s with heap:=((s.heap.push (seqObj "list" #[] 0)).update s.heap.objs.size (Obj.mapSeq (· ++vs.toArray))).push (seqObj "list" vs.toArray 0)};rw [hsz]
 refine wpAny_bind (wpAny_holding (wpAny_call_entry slot_list_sort ⟨_,hoL,rfl⟩ entry_list_sort (dU (lt:=lt) (κ:=κ) O hoL h64 (fun h2 h' st R hR=>hkind h2 h' (fun b o e=>st b o (keep b o e).2 (keep b o e).1) _ R hR)
  (fun h' st i j R hi hj hR=>hask h' (fun b o e=>st b o (keep b o e).2 (keep b o e).1) i j R hi hj hR) fun p a1 a2=>⟨_,rfl,?_⟩) (args_list_sort _)))
 exact wpAny_pure ⟨_,rfl,h p a1 a2⟩
end
end Srt
namespace Tre
open PySem PySem.Spec PyProof.Rows L2 Srt
theorem io {prog:Program} {w:World} {A:Around} {s:Shared} {fin:Bool} {Q:Bool->Shared->Prop}:∀ {as bs:List Value} {q:List (Bool×Bool)} {i:Nat},bv A s as bs q->Q (lexV fin q) s->PySem.W.KatLex prog w A false fin Q (as.zip bs) i s
 | [],_,q,i,h,hq=>by
  unfold bv at h;subst h;rw [List.zip_nil_left];exact PySem.W.kat_nil hq
 |_::_,[],q,i,h,hq=>by
  unfold bv at h;subst h;rw [List.zip_nil_right];exact PySem.W.kat_nil hq
 |a::as,b::bs,[],i,h,hq=>h.elim
 |a::as,b::bs,(e,l)::q,i,h,hq=>by
  obtain ⟨h1,h2,h3⟩:=h;rw [zj];refine PySem.W.kat_cons (h1 prog w _ _ ?_)
  cases e with
  |true=>exact PySem.W.kat_yes (io (h3 rfl) hq)
  |false=>
   refine PySem.W.kat_no ?_;show wpAny _ _ (oneLt' false a b) _ _ _;exact PySem.W.kat_one a b (h2 rfl prog w _ _ hq)
def Hd (t:Tr):Prop:=∃fs r,t= .tup (.tup fs::r)
theorem TrsAt.map {H:Hp} {vs:List V} {ts:List Tr} (h:TrsAt H vs ts):∀ {is:List Nat},(∀i∈is,i < ts.length)->TrsAt H (is.map fun i=>vs.getD i .non) (is.map fun i=>ts.getD i .non)
 | [],_=> .nil
 |i::is,hi=>by
  have h0:i < ts.length:=hi i yn;have hl:=h.len;obtain ⟨v,e1,e2⟩:=h.get (i:=i) (t:=ts[i]) (yj h0);have ev:vs.getD i .non=v:=by rw [yv,e1];rfl
  have et:ts.getD i .non=ts[i]:=by rw [yv,yj h0];rfl
  rw [yG,yG,ev,et];exact .cons e2 (TrsAt.map h fun j m=>hi j (ym _ m))
theorem Vals.map {vs:List V} {as:List Value} (h:Vals vs as):∀ {is:List Nat},(∀i∈is,i < vs.length)->Vals (is.map fun i=>vs.getD i .non) (is.map fun i=>as.getD i Value.none)
 | [],_=> .nil
 |i::is,hi=>by
  have h0:i < vs.length:=hi i yn;obtain ⟨u,e1,e2⟩:=h.get (i:=i) (x:=vs[i]) (yj h0);have ev:vs.getD i .non=vs[i]:=by rw [yv,yj h0];rfl
  have et:as.getD i Value.none=u:=by rw [yv,e1];rfl
  rw [yG,yG,ev,et];exact .cons e2 (Vals.map h fun j m=>hi j (ym _ m))
section
variable {X:Cx} {pins:List (Addr×Obj)} {σ:L2.St} {H:Hp} {s:Shared}
theorem bJ (I:Inv X pins σ H s) {r:Addr} {vs:List V} (h:H r=some (.tup vs)):∃(as:List Value) (o:Obj) (n:Nat),Vals vs as/\s.heap.get? r=some o/\o.cls= .type "tuple"/\o.data= .seq as.toArray n:=by
 obtain ⟨as,q,p,_⟩:=I.tuple (SqT.of h);obtain ⟨o,ho,hc,n,hd⟩:=(show s.heap.IsTuple r as.toArray from p);exact ⟨as,o,n,q,ho,hc,hd⟩
theorem gQ (I:Inv X pins σ H s):∀ {vs:List V} {ts:List Tr} {as:List Value},TrsAt H vs ts->Vals vs as->(∀t∈ts,Hd t)->∃fs,PySem.W.KatTups s.heap as fs/\fs.length=as.length/\∀v∈fs,∃(r:Addr) (o:Obj),v= .ref r/\s.heap.get? r=some o/\o.cls= .type "tuple"
 |vs,[],as,h,r,_=>by
  unfold TrsAt at h;subst h;cases r;exact ⟨[],PySem.W.KatTups.nil,rfl,fun v m=>by cases m⟩
 |vs,t::ts,as,h,r,hh=>by
  obtain ⟨v,vr,rfl,h1,h2⟩:=h.inv
  cases r with
  |cons q1 q2=>
   obtain ⟨fs,k1,k2,k3⟩:=gQ I h2 q2 fun t m=>hh t (ym _ m);obtain ⟨gs,gr,rfl⟩:=hh t yn;unfold TrAt at h1;obtain ⟨r0,vs0,rfl,g0,g1⟩:=h1;cases q1;obtain ⟨f,fr,rfl,h3,h4⟩:=g1.inv;obtain ⟨as0,o,n,q3,ho,hc,hd⟩:=bJ I g0
   cases q3 with
   |cons q5 q6=>
    unfold TrAt at h3;obtain ⟨r1,vs1,rfl,g2,_⟩:=h3;cases q5;obtain ⟨_,o1,_,_,ho1,hc1,_⟩:=bJ I g2;refine ⟨.ref r1::fs,PySem.W.KatTups.cons ho hc hd (by simp) k1,by simp [k2],fun v m=> ?_⟩
    rcases yx.mp m with rfl|m
    . exact ⟨r1,o1,rfl,ho1,hc1⟩
    . exact k3 v m
def u7:List V->Hp->VK->Prop:=fun xs H Q=>∃(l:Addr) (vs:List V) (ts:List Tr),xs= [.ref l]/\H l=some (.lst vs)/\TrsAt H vs ts/\ts.length < 64/\(∀t∈ts,Hd t/\t.pure/\t.depth<=40)/\(∀t∈ts,∀u∈ts,Cm t u)/\
 ∀(D:Addr) (ws:List V) (us:List Tr),H D=none->us.Perm ts->TrsAt H ws us->(∀(i j:Nat) (t u:Tr),i<=j->us[i]?=some t->us[j]?=some u->ltT u t=false)->Q (.ref D) (upd H D (.lst ws))
theorem fV (hu:X.A.units+60 < cLine):ck X (.builtin "sorted") u7:=by
 intro pins s σ H xs us Q I r h;refine hZq fun q_ e_=> ?_;obtain ⟨l,vs,ts,rfl,hl,hT,hlen,hts,hcm,q⟩:=h;obtain ⟨u,rfl,ru⟩:=cM r;subst e_;cases ru;obtain ⟨as,rv,pl,_⟩:=I.list (SqL.of hl);have l1:=hT.len;have l2:=rv.length;have O:Srt.Ord fun i j=>ltT (ts.getD i .non) (ts.getD j .non):=⟨fun a b h=>dz h,fun a b c h1 h2=>j5 h1 h2⟩
 have at_:∀i,i < as.length->∃t v a,ts.getD i .non=t/\t∈ts/\TrAt H v t/\RelV v a/\as.getD i Value.none=a:=fun i hi=>by
  have hi':i < ts.length:=by omega
  refine hZq fun q_ e_=> ?_;obtain ⟨v,e1,e2⟩:=hT.get (i:=i) (t:=ts[i]) (yj hi');obtain ⟨a,e3,e4⟩:=rv.get e1;subst e_;exact ⟨ts[i],v,a,by rw [yv,yj hi'];rfl,z5 hi',e2,e4,by rw [yv,e3];rfl⟩
 refine kQ (κ:=tuples' false) O pl.isList (by omega) (fun h2 h' kp E' R hR=> ?_) (fun h' kp i j R hi hj hR=> ?_) fun p hp hup=> ?_
 . have I':Inv X pins σ H {s with heap:=h'}:=I.kept (t':=s.toks) kp;obtain ⟨fs,k1,k2,k3⟩:=gQ I' hT rv fun t m=>(hts t m).1;refine PySem.W.kat_kind (T:=Value.type "tuple") k1 (by omega) (fun v m=> ?_) (by decide +kernel) ?_
   . refine hZq fun q_ e_=> ?_;obtain ⟨r,o,rfl,ho,hc⟩:=k3 v m;subst e_;have:PySem.W.Looks (model X.prog X.w) h' (typeOf (.ref r)) o.cls:=(PySem.W.Looks.ld ho).andThen .now;rw [hc] at this;exact this
   . rw [show (Value.type "tuple" !=Value.type "tuple")=false by decide +kernel]
     exact hR
 . have I':Inv X pins σ H {s with heap:=h'}:=I.kept (t':=s.toks) kp;refine hZq fun q_ e_=> ?_;obtain ⟨t,v,a,et,mt,ht,ra,ea⟩:=at_ i hi;obtain ⟨u,v',b,eu,mu,hu',rb,eb⟩:=at_ j hj;have hc:=hcm t mt u mu;obtain ⟨⟨f1,r1,rfl⟩,p1,d1⟩:=hts t mt;obtain ⟨⟨f2,r2,rfl⟩,p2,d2⟩:=hts u mu;unfold TrAt at ht hu';obtain ⟨x0,vs0,rfl,g0,g1⟩:=ht;obtain ⟨y0,ws0,rfl,g2,g3⟩:=hu';subst e_;cases ra;cases rb;refine hZq fun q_ e_=> ?_;obtain ⟨as0,o,n,q3,ho,hcl,hd⟩:=bJ I' g0;obtain ⟨bs0,o',n',q4,ho',hcl',hd'⟩:=bJ I' g2;subst e_;unfold Tr.depth at d1;unfold Tr.pure at p1;unfold Cm at hc;have hu1:X.A.in1.in1.units+40+1 < cLine:=by show X.A.units+1+1+40+1 < cLine;omega
   have hx:=e7 (A:=X.A.in1.in1) I' hu1 (fun d pp cc a1 a2 b1 b2=>eA I' 40 d pp cc a1 a2 b1 b2 hu1) (by omega) (.inl p1) hc g1 g3 q3 q4
   unfold PySem.W.kas_ask;rw [ea,eb];refine PySem.W.kat_lt (b:=false) ho hd ho' hd' ?_;rw [zo,zo];refine io hx ?_
   have e:lexV (decide (as0.toArray.size < bs0.toArray.size)) (qs (.tup f1::r1) (.tup f2::r2))=ltT (ts.getD i .non) (ts.getD j .non):=by
    have z0:=g1.len;have z1:=g3.len;have z2:=q3.length;have z3:=q4.length
    have e2:decide (as0.toArray.size < bs0.toArray.size)=decide ((Tr.tup f1::r1).length < (Tr.tup f2::r2).length):=by
     rw [yu,yu,<-z2,<-z3,z0,z1]
    rw [e2,et,eu];refine aN ?_;rw [dg,ltT_iff];simp [code,LtC]
   rw [e];exact hR
 . have hin:∀i∈p.toList,i < ts.length:=fun i m=>by
    have:=yX.mp (List.Perm.mem_iff hp |>.mp m);omega
   refine ⟨.ref (s.heap.objs.size+1),upd H (s.heap.objs.size+1) (.lst (p.toList.map fun i=>vs.getD i .non)),I.laid (t':=s.toks) (fun b o e=>sortedAll_old e) (Nat.le_succ _) ?_,rfl,?_⟩
   . obtain ⟨e,he⟩:=sortedAll_at s.heap as (List.toArray (p.toList.map fun i=>as.getD i Value.none));refine ⟨?_,p.toList.map fun i=>as.getD i Value.none,e,Vals.map rv fun i m=>by have:=hin i m;omega,he⟩
     rw [yi,yP,hp.size];have:(64:Nat)<=sizeLine:=by decide +kernel
     omega
   . refine q _ _ (p.toList.map fun i=>ts.getD i .non) (I.hok.fresh (Nat.le_succ _)) ?_ (TrsAt.map hT hin) fun i j t u hij e1 e2=> ?_
     . have:=List.Perm.map (fun i=>ts.getD i Tr.non) hp;rw [show as.length=ts.length by omega,cC] at this
       exact this
     . rw [yo] at e1 e2;refine hZq fun q_ e_=> ?_;obtain ⟨a,ea,rfl⟩:=yw.mp e1;obtain ⟨b,eb,rfl⟩:=yw.mp e2;subst e_
       have hj:j < as.length:=by
        have:=(yt.mp eb).1;rw [yP,hp.size] at this;exact this
       have:=hup i j hij hj;rw [c9,c9,<-yQ,<-yQ,ea,eb] at this;exact this
end
end Tre
namespace Tre
open PySem L2
inductive So where
 |tm|fr|pr|ws|lt
abbrev s_ (x:String):Tr:= .str (Str.ofString x)
inductive Ty:So->Tr->Prop
 |nm (x:Str):Ty .tm (.tup [s_ "name", .str x])
 |ap (x:Str) (ts:List Tr):ts.length<=3->(∀t∈ts,Ty .tm t)->Ty .tm (.tup [s_ "call", .str x, .tup ts])
 |fr (a b:Int):Ty .fr (.tup [.int a, .int b])
 |pr (t f:Tr):Ty .tm t->Ty .fr f->Ty .pr (.tup [t,f])
 |fl (x:Str):Ty .ws (.tup [s_ "flag", .str x])
 |mo (ps:List Tr) (f:Tr):(∀p∈ps,Ty .pr p)->Ty .fr f->Ty .ws (.tup [s_ "most", .tup ps,f])
 |li (t u:Tr):Ty .tm t->Ty .tm u->Ty .ws (.tup [s_ "like",t,u])
 |no (w:Tr):Ty .ws w->Ty .ws (.tup [s_ "not",w])
 |bo (l:List Tr):(∀w∈l,Ty .ws w)->Ty .ws (.tup [s_ "both", .tup l])
 |ei (l:List Tr):(∀w∈l,Ty .ws w)->Ty .ws (.tup [s_ "either", .tup l])
 |lt (w:Tr) (b:Bool):Ty .ws w->Ty .lt (.tup [w, .bl b])
theorem aD {t u:Tr} {ts us:List Tr} (h1:eqT t u=false->Cm t u) (h2:Cms ts us):Cms (t::ts) (u::us):=by
 unfold Cms
 cases e:eqT t u with
 |true=>exact .inl ⟨rfl,h2⟩
 |false=>exact .inr ⟨rfl,h1 e⟩
theorem xc {t u:Tr} {ts us:List Tr} (h0:eqT t u=false) (h1:Cm t u):Cms (t::ts) (u::us):=by
 unfold Cms;exact .inr ⟨h0,h1⟩
theorem bh {us:List Tr}:Cms [] us:=by
 cases us<;>simp [Cms]
theorem cq (x y:Str):Cm (.str x) (.str y):=by simp [Cm]
theorem fu (x y:Int):Cm (.int x) (.int y):=by simp [Cm]
theorem yg (x y:Bool):Cm (.bl x) (.bl y):=by simp [Cm]
theorem dG {ts us:List Tr} (h:Cms ts us):Cm (.tup ts) (.tup us):=by
 unfold Cm;exact h
theorem gc {ts us:List Tr} (h:∀t∈ts,∀u∈us,Cm t u):Cms ts us:=by
 induction ts generalizing us with
 |nil=>exact bh
 |cons t ts ih=>
  cases us with
  |nil=>simp [Cms]
  |cons u us=>exact aD (fun _=>h t yn u yn) (ih fun a ma b mb=>h a (ym _ ma) b (ym _ mb))
theorem jz:∀(n:Nat) {k:So} {t u:Tr},t.depth<=n->Ty k t->Ty k u->Cm t u:=by
 intro n
 induction n with
 |zero=>
  intro k t u hd h1 h2;cases h1<;>simp [Tr.depth] at hd
 |succ n ih=>
  intro k t u hd h1 h2
  have sub:∀ {ts:List Tr} {t:Tr},(Tr.tup ts).depth<=n+1->t∈ts->t.depth<=n:=fun h m=>by
   unfold Tr.depth at h;have:=bg m;omega
  have sub2:∀ {ts l:List Tr} {t:Tr},(Tr.tup ts).depth<=n+1->Tr.tup l∈ts->t∈l->t.depth<=n:=fun h m m2=>by
   have h3:=sub h m;unfold Tr.depth at h3;have:=bg m2;omega
  cases h1<;>cases h2<;>refine dG ?_
  all_goals first
   |exact xc (by decide +kernel) (cq _ _)
   |skip
  . exact aD (fun _=>cq _ _) (aD (fun _=>cq _ _) bh)
  . rename_i x ts _ h1 y us _ h2;exact aD (fun _=>cq _ _) (aD (fun _=>cq _ _) (aD (fun _=>dG (gc fun a ma b mb=>ih (sub2 hd (by simp) ma) (h1 a ma) (h2 b mb))) bh))
  . exact aD (fun _=>fu _ _) (aD (fun _=>fu _ _) bh)
  . rename_i t1 f1 a1 b1 t2 f2 a2 b2;exact aD (fun _=>ih (sub hd (by simp)) a1 a2) (aD (fun _=>ih (sub hd (by simp)) b1 b2) bh)
  . exact aD (fun _=>cq _ _) (aD (fun _=>cq _ _) bh)
  . rename_i p1 f1 a1 b1 p2 f2 a2 b2;exact aD (fun _=>cq _ _) (aD (fun _=>dG (gc fun a ma b mb=>ih (sub2 hd (by simp) ma) (a1 a ma) (a2 b mb))) (aD (fun _=>ih (sub hd (by simp)) b1 b2) bh))
  . rename_i t1 u1 a1 b1 t2 u2 a2 b2;exact aD (fun _=>cq _ _) (aD (fun _=>ih (sub hd (by simp)) a1 a2) (aD (fun _=>ih (sub hd (by simp)) b1 b2) bh))
  . rename_i w1 a1 w2 a2;exact aD (fun _=>cq _ _) (aD (fun _=>ih (sub hd (by simp)) a1 a2) bh)
  . rename_i l1 a1 l2 a2;exact aD (fun _=>cq _ _) (aD (fun _=>dG (gc fun a ma b mb=>ih (sub2 hd (by simp) ma) (a1 a ma) (a2 b mb))) bh)
  . rename_i l1 a1 l2 a2;exact aD (fun _=>cq _ _) (aD (fun _=>dG (gc fun a ma b mb=>ih (sub2 hd (by simp) ma) (a1 a ma) (a2 b mb))) bh)
  . rename_i w1 b1 a1 w2 b2 a2;exact aD (fun _=>ih (sub hd (by simp)) a1 a2) (aD (fun _=>yg _ _) bh)
theorem eK {ts:List Tr} (h:∀t∈ts,t.pure):Trs.pure ts:=by
 induction ts with
 |nil=>unfold Trs.pure;trivial
 |cons t ts ih=>
  unfold Trs.pure;exact ⟨h t yn,ih fun u m=>h u (ym _ m)⟩
theorem cY {k:So} {t:Tr} (h:Ty k t):t.pure:=by
 induction h with
 |nm x=>simp [Tr.pure,Trs.pure]
 |ap x ts _ _ ih=>simp only [Tr.pure,Trs.pure];exact ⟨trivial,trivial,eK ih,trivial⟩
 |fr a b=>simp [Tr.pure,Trs.pure]
 |pr t f _ _ h1 h2=>simp only [Tr.pure,Trs.pure];exact ⟨h1,h2,trivial⟩
 |fl x=>simp [Tr.pure,Trs.pure]
 |mo ps f _ _ h1 h2=>simp only [Tr.pure,Trs.pure];exact ⟨trivial,eK h1,h2,trivial⟩
 |li t u _ _ h1 h2=>simp only [Tr.pure,Trs.pure];exact ⟨trivial,h1,h2,trivial⟩
 |no w _ h1=>simp only [Tr.pure,Trs.pure];exact ⟨trivial,h1,trivial⟩
 |bo l _ h1=>simp only [Tr.pure,Trs.pure];exact ⟨trivial,eK h1,trivial⟩
 |ei l _ h1=>simp only [Tr.pure,Trs.pure];exact ⟨trivial,eK h1,trivial⟩
 |lt w b _ h1=>simp only [Tr.pure,Trs.pure];exact ⟨h1,trivial,trivial⟩
theorem uR {t:Tr} (h:Ty .lt t\/Ty .pr t):Hd t:=by
 rcases h with h|h
 . cases h with
   |lt w b hw=>cases hw<;>exact ⟨_,_,rfl⟩
 . cases h with
   |pr t f ht hf=>cases ht<;>exact ⟨_,_,rfl⟩
end Tre
namespace L2
open PySem PySem.Spec PyProof.Rows
theorem FnScope.of {N P:List Str} {sc:Scope} (h1:sc.kind= .function:=by rfl) (h2:sc.isCoroutine=false:=by rfl) (h3:sc.isGenerator=false:=by rfl) (h4:N.Nodup:=by decide +kernel) (h5:N.take P.length=P:=by rfl) (h6:∀x∈P,sc.names.lookup x=some .local\/sc.names.lookup x=some .cell:=by decide +kernel) (h7:∀y∈sc.names,y.2≠ .free:=by decide +kernel):FnScope N P sc:=⟨h1,h2,h3,h4,h5,h6,h7⟩
section
variable {X:Cx} {pos:Pos} {x:Str} {e:Expr} {te:TE} {pos':Pos}
theorem psA (i:Nat) (hN:X.N.Nodup) (he:PE X e te) (hi:X.N[i]?=some x:=by rfl) (hx:X.env.scope.names.lookup x=some .local:=by rfl) (hs:swapsWith e (some (.Name x pos')) pos.line X.env=pure false:=by rfl):PS X (.Assign [.Name x pos'] e pos) (tAsg te (aL i)):=
 qW hN hi (Or.inl hx) he hs (Or.inr hx)
theorem psR (i:Nat) (hN:X.N.Nodup) (he:PE X e te) (hi:X.N[i]?=some x:=by rfl) (hx:X.env.scope.names.lookup x=some .cell:=by rfl) (hf:X.fn x=true:=by rfl) (hs:swapsWith e (some (.Name x pos')) pos.line X.env=pure false:=by rfl):PS X (.Assign [.Name x pos'] e pos) (tAsg te (aL i)):=
 qW hN hi (Or.inr hx) he hs (Or.inl hf)
theorem pgA (i:Nat) (hN:X.N.Nodup) (hi:X.N[i]?=some x:=by rfl) (hx:X.env.scope.names.lookup x=some .local:=by rfl):PG X (.Name x pos) (aL i):=iZ hN hi (Or.inl hx) (Or.inr hx)
end
theorem two:2<=sizeLine:=by decide
section
variable {P:Program} {w:World} {K:PySem.W.Frag} {mg:Str->Option Value} {base:Heap}
theorem Fun.okb {x qual:Str} {st:Stmt} {f:Addr} {fd:FuncData} {N ps:List Str} {k:Nat} {sp:Sp} (F:Fun K x qual st f fd) (S:FnScope N ps (af st))
 (hb:∀vs H Q E,sp vs H Q E->vs.length=ps.length/\∀(cdv:Value) (A:Around) (outer:List Env) (s:Shared),Room k (A.deeper (envOfC qual (af st) s.heap.objs.size f cdv))->
  ∃t,PSs (cxOf CX0 P w K mg base N qual (af st) f cdv A outer s H E).nox (aQ st) t/\t {nx:=fun _ H'=>Q .non H',rt:=Q} (eJ N vs) H):FnOk P w K mg base CX0 (k+1) f fd ps sp:=
 F.ok S (fun vs H Q E h=>(hb vs H Q E h).1) fun cdv A outer s H vs Q E hr h=>(hb vs H Q E h).2 cdv A outer s hr
end
structure FH (K:PySem.W.Frag) (n:Str) (st:Stmt) (f:Addr) (fd:FuncData):Prop where
 ex:∃(oc:Value) (od:Option Addr) (kV doc pm:Value) (an:Option Addr) (cdv ct:Value) (osl:Array (Option Value)),
  fd=PySem.W.fnOf n n (b9 st) (aQ st) (af st) .none kV doc pm an cdv ct/\K.lookup f=some ⟨oc,od, .func fd,osl⟩/\PySem.W.codeIn K cdv n=true
 kp:PySem.W.keepIn K (.ref f)=true
 ns:PySem.W.nsIn K mainGlobals n=some (some (.ref f))
section
variable {K:PySem.W.Frag} {n:Str} {st:Stmt} {f:Addr} {fd:FuncData}
theorem FH.mk' {oc:Value} {od an:Option Addr} {osl:Array (Option Value)} {kV doc pm cdv ct:Value} (a:PySem.W.nsIn K mainGlobals n=some (some (.ref f))) (l:K.lookup f=some ⟨oc,od, .func (PySem.W.fnOf n n (b9 st) (aQ st) (af st) .none kV doc pm an cdv ct),osl⟩)
 (c:PySem.W.codeIn K cdv n=true) (k:PySem.W.keepIn K (.ref f)=true):FH K n st f (PySem.W.fnOf n n (b9 st) (aQ st) (af st) .none kV doc pm an cdv ct):=⟨⟨_,_,_,_,_,_,_,_,_,rfl,l,c⟩,k,a⟩
theorem FH.fn (h:FH K n st f fd):Fun K n n st f fd:=⟨h.ex,h.kp⟩
theorem FH.b (h:FH K n st f fd) {ps:List Str} (hb:∀(kV doc pm:Value) (an:Option Addr) (cdv ct:Value) (us:List Value),us.length=ps.length->bindArgs (PySem.W.fnOf n n (b9 st) (aQ st) (af st) .none kV doc pm an cdv ct) ⟨us,[]⟩=pure (ps.zip us)):Binds K fd ps []:=h.fn.binds hb
theorem ln1 {α:Type} {n:Nat} {us:List α} (h:us.length=n+1):∃a r,us=a::r/\r.length=n:=by
 cases us with
 |nil=>cases h
 |cons a r=>exact ⟨a,r,rfl,Nat.succ.inj h⟩
theorem FH.b1 {x:Str} (h:FH K n st f fd) (hb:∀(kV doc pm:Value) (an:Option Addr) (cdv ct a:Value),bindArgs (PySem.W.fnOf n n (b9 st) (aQ st) (af st) .none kV doc pm an cdv ct) ⟨[a],[]⟩=pure [(x,a)]:=by intros;rfl):Binds K fd [x] []:=h.b fun _ _ _ _ _ _ us h0=>by
 obtain ⟨_,_,rfl,h1⟩:=ln1 h0;cases List.eq_nil_of_length_eq_zero h1;exact hb _ _ _ _ _ _ _
theorem FH.b2 {x y:Str} (h:FH K n st f fd) (hb:∀(kV doc pm:Value) (an:Option Addr) (cdv ct a b:Value),bindArgs (PySem.W.fnOf n n (b9 st) (aQ st) (af st) .none kV doc pm an cdv ct) ⟨[a,b],[]⟩=pure [(x,a),(y,b)]:=by intros;rfl):Binds K fd [x,y] []:=h.b fun _ _ _ _ _ _ us h0=>by
 obtain ⟨_,_,rfl,h1⟩:=ln1 h0;obtain ⟨_,_,rfl,h2⟩:=ln1 h1;cases List.eq_nil_of_length_eq_zero h2;exact hb _ _ _ _ _ _ _ _
theorem FH.b3 {x y z:Str} (h:FH K n st f fd) (hb:∀(kV doc pm:Value) (an:Option Addr) (cdv ct a b c:Value),bindArgs (PySem.W.fnOf n n (b9 st) (aQ st) (af st) .none kV doc pm an cdv ct) ⟨[a,b,c],[]⟩=pure [(x,a),(y,b),(z,c)]:=by intros;rfl):Binds K fd [x,y,z] []:=h.b fun _ _ _ _ _ _ us h0=>by
 obtain ⟨_,_,rfl,h1⟩:=ln1 h0;obtain ⟨_,_,rfl,h2⟩:=ln1 h1;obtain ⟨_,_,rfl,h3⟩:=ln1 h2;cases List.eq_nil_of_length_eq_zero h3;exact hb _ _ _ _ _ _ _ _ _
theorem FH.b5 {x y z u v:Str} (h:FH K n st f fd) (hb:∀(kV doc pm:Value) (an:Option Addr) (cdv ct a b c d e:Value),bindArgs (PySem.W.fnOf n n (b9 st) (aQ st) (af st) .none kV doc pm an cdv ct) ⟨[a,b,c,d,e],[]⟩=pure [(x,a),(y,b),(z,c),(u,d),(v,e)]:=by intros;rfl):Binds K fd [x,y,z,u,v] []:=h.b fun _ _ _ _ _ _ us h0=>by
 obtain ⟨_,_,rfl,h1⟩:=ln1 h0;obtain ⟨_,_,rfl,h2⟩:=ln1 h1;obtain ⟨_,_,rfl,h3⟩:=ln1 h2;obtain ⟨_,_,rfl,h4⟩:=ln1 h3;obtain ⟨_,_,rfl,h5⟩:=ln1 h4;cases List.eq_nil_of_length_eq_zero h5;exact hb _ _ _ _ _ _ _ _ _ _ _
end
open PySem PySem.Spec PyProof.Rows
section
variable {X:Cx}
end
open PySem PySem.Spec PyProof.Rows
section
variable {X:Cx} {tg:Expr}
end
section
variable {X:Cx} {tg:Expr}
end
open PySem PySem.Spec PyProof.Rows
section
variable {prog:Program} {w:World} {A:Around} {E:Value->Shared->Prop} {s:Shared}
end
section
variable {X:Cx}
end
end L2
namespace Dec
open PySem PySem.NumText
noncomputable def cl (x:Str):List Nat:=x.cps.toList
theorem gZ (x y:Str):cl (x++y)=cl x++cl y:=by
 show (x.cps++y.cps).toList=_;simp [cl]
theorem cl_inj {x y:Str} (h:cl x=cl y):x=y:=by
 cases x;cases y;simp only [Str.mk.injEq];exact Array.toList_inj.mp h
theorem cL (x:Str):(cl x).length=x.length:=by simp [cl,Str.length]
noncomputable def ds (n:Nat):List Nat:=(Nat.toDigits 10 n).map Char.toNat
end Dec
namespace Mth
theorem se (a b:Int):Int.gcd b (a.fmod b)=Int.gcd a b:=by
 have e:a.fmod b=a - b*a.fdiv b:=Int.fmod_def a b;rw [e,Int.gcd_comm a b];have:a - b*a.fdiv b=a+b*(-(a.fdiv b)):=by rw [Int.mul_neg,Int.sub_eq_add_neg]
 rw [this];exact Int.gcd_add_mul_left_right ..
theorem uH {a b:Int} (h:b≠0):(a.fmod b).natAbs < b.natAbs:=by
 by_cases hb:0 < b
 . have h1:=Int.fmod_nonneg_of_pos a hb;have h2:=Int.fmod_lt_of_pos a hb;omega
 . have h3:0 < -b:=by omega
   have e:a.fmod b= -((-a).fmod (-b)):=by
    rw [Int.neg_fmod_neg,Int.neg_neg]
   have h1:=Int.fmod_nonneg_of_pos (-a) h3;have h2:=Int.fmod_lt_of_pos (-a) h3;omega
noncomputable def dv (t b:Int):Int:=if b < 0 then -(Int.gcd t b:Int) else (Int.gcd t b:Int)
noncomputable def fx (t b:Int):Int:=t.fdiv (dv t b)
noncomputable def fy (t b:Int):Int:=b.fdiv (dv t b)
theorem sy {t b:Int} (h:b≠0):dv t b≠0:=by
 have:0 < Int.gcd t b:=yU t h;unfold dv;split<;>omega
theorem wZ {t b:Int}:(dv t b).natAbs=Int.gcd t b:=by
 unfold dv;split<;>omega
theorem wY {t b:Int}:dv t b∣t/\dv t b∣b:=by
 have h1:((Int.gcd t b:Nat):Int)∣t:=Int.gcd_dvd_left ..;have h2:((Int.gcd t b:Nat):Int)∣b:=Int.gcd_dvd_right ..;unfold dv;split
 . exact ⟨Int.neg_dvd.mpr h1,Int.neg_dvd.mpr h2⟩
 . exact ⟨h1,h2⟩
theorem parts {t b:Int} (h:b≠0):t=dv t b*fx t b/\b=dv t b*fy t b:=by
 obtain ⟨⟨x,hx⟩,⟨y,hy⟩⟩:=wY (t:=t) (b:=b);have n:=sy (t:=t) h
 have e1:fx t b=x:=by
  unfold fx;generalize dv t b=d at*;rw [hx];exact Int.mul_fdiv_cancel_left _ n
 have e2:fy t b=y:=by
  unfold fy;generalize dv t b=d at*;rw [hy];exact Int.mul_fdiv_cancel_left _ n
 rw [e1,e2];exact ⟨hx,hy⟩
theorem wU {t b:Int} (h:b≠0):1<=fy t b:=by
 obtain ⟨_,e⟩:=parts (t:=t) h;have g:0 < Int.gcd t b:=yU t h;have n:=sy (t:=t) h;by_cases q:1<=fy t b
 . exact q
 . exfalso;have q':fy t b<=0:=by omega
   have d:(b < 0->dv t b < 0)/\(¬b < 0->0 < dv t b):=by
    unfold dv;constructor
    . intro z;rw [if_pos z];omega
    . intro z;rw [if_neg z];omega
   by_cases z:b < 0
   . have:=Int.mul_nonneg_of_nonpos_of_nonpos (Int.le_of_lt (d.1 z)) q';omega
   . have:=Int.mul_nonpos_of_nonneg_of_nonpos (Int.le_of_lt (d.2 z)) q';omega
theorem wH {t b:Int} (h:b≠0):Int.gcd (fx t b) (fy t b)=1:=by
 obtain ⟨e1,e2⟩:=parts (t:=t) h;have g:0 < Int.gcd t b:=yU t h
 have e:Int.gcd t b=(dv t b).natAbs*Int.gcd (fx t b) (fy t b):=by
  have:Int.gcd t b=Int.gcd (dv t b*fx t b) (dv t b*fy t b):=by rw [<-e1,<-e2]
  rw [this,Int.gcd_mul_left]
 rw [wZ] at e;have:=Nat.eq_of_mul_eq_mul_left g (show Int.gcd t b*1=Int.gcd t b*Int.gcd (fx t b) (fy t b) by rw [<-e,Nat.mul_one])
 exact this.symm
def iD (x y:Int):Prop:=0 < y/\Int.gcd x y=1
theorem jm {x y z:Int} (h1:Int.gcd x y=1) (h2:Int.gcd x z=1):Int.gcd x (y*z)=1:=by
 show Nat.gcd x.natAbs (y*z).natAbs=1;rw [yT];exact Nat.Coprime.mul_right h1 h2
theorem sQ {x y z:Int} (h1:Int.gcd y x=1) (h2:Int.gcd z x=1):Int.gcd (y*z) x=1:=by
 rw [Int.gcd_comm];exact jm (by rw [Int.gcd_comm];exact h1) (by rw [Int.gcd_comm];exact h2)
theorem sR {x x' y:Int} (h:Int.gcd (x'*x) y=1):Int.gcd x' y=1:=by
 have e:Nat.gcd (x'*x).natAbs y.natAbs=1:=h;rw [yT] at e;exact Nat.Coprime.coprime_mul_right e
theorem ft {x x' y:Int} (h:Int.gcd (x*x') y=1):Int.gcd x' y=1:=by
 rw [zy] at h;exact sR h
theorem ir {x y y':Int} (h:Int.gcd x (y*y')=1):Int.gcd x y'=1:=by
 rw [Int.gcd_comm] at h ⊢;exact ft h
theorem cN {x y:Int} (h:y≠0):∃x' y':Int,x=(Int.gcd x y:Int)*x'/\y=(Int.gcd x y:Int)*y'/\Int.gcd x' y'=1/\x / (Int.gcd x y:Int)=x'/\y / (Int.gcd x y:Int)=y':=by
 have g:0 < Int.gcd x y:=yU x h;obtain ⟨x',hx⟩:((Int.gcd x y:Nat):Int)∣x:=Int.gcd_dvd_left ..;obtain ⟨y',hy⟩:((Int.gcd x y:Nat):Int)∣y:=Int.gcd_dvd_right ..;have n:((Int.gcd x y:Nat):Int)≠0:=by omega
 refine ⟨x',y',hx,hy,?_,?_,?_⟩
 . have e:Int.gcd x y=Int.gcd x y*Int.gcd x' y':=by
    have:Int.gcd x y=Int.gcd ((Int.gcd x y:Int)*x') ((Int.gcd x y:Int)*y'):=by rw [<-hx,<-hy]
    rw [Int.gcd_mul_left,Int.natAbs_natCast] at this;exact this
   have:=Nat.eq_of_mul_eq_mul_left g (show Int.gcd x y*1=Int.gcd x y*Int.gcd x' y' by rw [<-e,Nat.mul_one])
   exact this.symm
 . generalize ((Int.gcd x y:Nat):Int)=k at*;rw [hx];exact zK _ n
 . generalize ((Int.gcd x y:Nat):Int)=k at*;rw [hy];exact zK _ n
theorem de {k x:Int} (hk:0<=k) (h:0 < k*x):0 < x:=by
 by_cases q:0 < x
 . exact q
 . have:=Int.mul_nonpos_of_nonneg_of_nonpos hk (show x<=0 by omega)
   omega
noncomputable def pT (a b c d:Int):Int:=a*(d / (Int.gcd b d:Int))+c*(b / (Int.gcd b d:Int))
noncomputable def tX (a b c d:Int):Int:=a / (Int.gcd a d:Int)*(c / (Int.gcd c b:Int))
noncomputable def tY (a b c d:Int):Int:=b / (Int.gcd c b:Int)*(d / (Int.gcd a d:Int))
theorem pf {a b c d:Int} (h1:iD a b) (h2:iD c d):iD (tX a b c d) (tY a b c d)/\tX a b c d*(b*d)=a*c*tY a b c d:=by
 obtain ⟨b0,g1⟩:=h1;obtain ⟨d0,g2⟩:=h2;obtain ⟨a',d',ea,ed,g3,qa,qd⟩:=cN (x:=a) (y:=d) (by omega)
 obtain ⟨c',b',ec,eb,g4,qc,qb⟩:=cN (x:=c) (y:=b) (by omega)
 have f0:(0:Int)<=(Int.gcd a d:Int):=by omega
 have k0:(0:Int)<=(Int.gcd c b:Int):=by omega
 unfold tX tY;rw [qa,qd,qc,qb];generalize ((Int.gcd a d:Nat):Int)=f at*;generalize ((Int.gcd c b:Nat):Int)=k at*;have b0':0 < b':=de k0 (by omega)
 have d0':0 < d':=de f0 (by omega)
 subst ea ed ec eb;have h1:Int.gcd a' b'=1:=ft (ir g1);have h2:Int.gcd c' d'=1:=ft (ir g2);refine ⟨⟨zP b0' d0',sQ (jm h1 g3) (jm g4 h2)⟩,?_⟩;simp only [zt,Int.mul_left_comm,zy]
theorem dh {t b:Int} (h:b≠0):iD (fx t b) (fy t b):=⟨by have:=wU (t:=t) h;omega,wH h⟩
theorem cA (a b:Int):(a / b).natAbs<=a.natAbs:=Int.natAbs_ediv_le_natAbs a b
end Mth
namespace Dec
open PySem PySem.NumText L2 Mth
noncomputable def sl:Str:=Str.ofString "/"
open PySem PySem.NumText L2 Mth
noncomputable def sg (x:Int):List Nat:=if x < 0 then [45] else []
noncomputable def low (x y:Int):List Nat:=ds x.natAbs++(if y=1 then [] else 47::ds y.natAbs)
noncomputable def txt (x y:Int):List Nat:=sg x++low x y
noncomputable def mn:Str:=Str.ofString "-"
end Dec
namespace Tk
open PySem PySem.Spec PyProof.Rows L2
inductive KT where
 |lf (k:Key)
 |tp (ts:List KT)
noncomputable instance:DecidableEq KT:=Classical.typeDecidableEq KT
mutual
noncomputable def KT.depth:KT->Nat
 | .lf _=>0
 | .tp ts=>KTs.depth ts+1
noncomputable def KTs.depth:List KT->Nat
 | []=>0
 |t::ts=>max (KT.depth t) (KTs.depth ts)
end
theorem e8:∀ {ts:List KT} {t:KT},t∈ts->t.depth<=KTs.depth ts
 |a::ts,t,h=>by
  unfold KTs.depth;rcases yx.mp h with rfl|h
  . omega
  . have:=e8 h;omega
mutual
def KAt (h:Heap):Value->KT->Prop
 |v, .lf k=>fK k v=true
 |v, .tp ts=>∃a o items n,v= .ref a/\h.get? a=some o/\o.cls= .type "tuple"/\o.data= .seq items n/\KsAt h items.toList ts
def KsAt (h:Heap):List Value->List KT->Prop
 |vs,[]=>vs= []
 |vs,t::ts=>∃v r,vs=v::r/\KAt h v t/\KsAt h r ts
end
mutual
theorem KAt.keep {h h':Heap} (k:∀a o items n,h.get? a=some o->o.data= .seq items n->h'.get? a=some o):∀ {v:Value} {t:KT},KAt h v t->KAt h' v t
 |v, .lf k,x=>by unfold KAt at x ⊢;exact x
 |v, .tp ts,x=>by
  unfold KAt at x ⊢;obtain ⟨a,o,items,n,e,g,c,d,r⟩:=x;exact ⟨a,o,items,n,e,k a o items n g d,c,d,KsAt.keep k r⟩
theorem KsAt.keep {h h':Heap} (k:∀a o items n,h.get? a=some o->o.data= .seq items n->h'.get? a=some o):∀ {vs:List Value} {ts:List KT},KsAt h vs ts->KsAt h' vs ts
 |vs,[],x=>by unfold KsAt at x ⊢;exact x
 |vs,t::ts,x=>by
  unfold KsAt at x ⊢;obtain ⟨v,r,e,x1,x2⟩:=x;exact ⟨v,r,e,KAt.keep k x1,KsAt.keep k x2⟩
end
mutual
theorem KAt.det {h:Heap}:∀ {v:Value} {t u:KT},KAt h v t->KAt h v u->t=u
 |v, .lf k, .lf j,x,y=>by
  unfold KAt at x y;rcases aB x with ⟨i,t,rfl,rfl⟩|⟨x',t,rfl,rfl⟩
  . rcases aB y with ⟨i',t',rfl,e⟩|⟨y',t',rfl,e⟩
    . injection e with e1 _;rw [e1]
    . cases e
  . rcases aB y with ⟨i',t',rfl,e⟩|⟨y',t',rfl,e⟩
    . cases e
    . injection e with e1 _;rw [e1]
 |v, .lf k, .tp us,x,y=>by
  unfold KAt at x y;obtain ⟨a,o,items,n,rfl,_⟩:=y;rcases aB x with ⟨i,t,rfl,e⟩|⟨x',t,rfl,e⟩<;>cases e
 |v, .tp ts, .lf k,x,y=>by
  unfold KAt at x y;obtain ⟨a,o,items,n,rfl,_⟩:=x;rcases aB y with ⟨i,t,rfl,e⟩|⟨x',t,rfl,e⟩<;>cases e
 |v, .tp ts, .tp us,x,y=>by
  unfold KAt at x y;obtain ⟨a,o,items,n,rfl,g,c,d,r⟩:=x;obtain ⟨a',o',items',n',e,g',c',d',r'⟩:=y;injection e with e;subst e;rw [g] at g';cases g';rw [d] at d';injection d' with d1 _;subst d1;rw [KsAt.det r r']
theorem KsAt.det {h:Heap}:∀ {vs:List Value} {ts us:List KT},KsAt h vs ts->KsAt h vs us->ts=us
 |vs,[],[],_,_=>rfl
 |vs,[],u::us,x,y=>by
  unfold KsAt at x y;obtain ⟨v,r,e,_⟩:=y;rw [x] at e;cases e
 |vs,t::ts,[],x,y=>by
  unfold KsAt at x y;obtain ⟨v,r,e,_⟩:=x;rw [y] at e;cases e
 |vs,t::ts,u::us,x,y=>by
  unfold KsAt at x y;obtain ⟨v,r,rfl,x1,x2⟩:=x;obtain ⟨v',r',e,y1,y2⟩:=y;cases e;rw [KAt.det x1 y1,KsAt.det x2 y2]
end
theorem KsAt.len {h:Heap}:∀ {vs:List Value} {ts:List KT},KsAt h vs ts->vs.length=ts.length
 |vs,[],x=>by unfold KsAt at x;rw [x];rfl
 |vs,t::ts,x=>by
  unfold KsAt at x;obtain ⟨v,r,rfl,_,x2⟩:=x;rw [yH,yH,KsAt.len x2]
theorem KsAt.get {h:Heap}:∀ {vs:List Value} {ts:List KT} {j:Nat} {v:Value},KsAt h vs ts->vs[j]?=some v->∃t,ts[j]?=some t/\KAt h v t
 |vs,[],j,v,x,e=>by
  unfold KsAt at x;rw [x] at e;cases e
 |vs,t::ts,0,v,x,e=>by
  unfold KsAt at x;obtain ⟨v',r,rfl,x1,_⟩:=x;cases e;exact ⟨t,rfl,x1⟩
 |vs,t::ts,j+1,v,x,e=>by
  unfold KsAt at x;obtain ⟨v',r,rfl,_,x2⟩:=x;exact KsAt.get (j:=j) x2 e
section
variable (prog:Program) (w:World)
mutual
noncomputable def KT.hash:KT->Int
 | .lf k=>(aJ prog w).hash k
 | .tp ts=>reduceHash (Builtin.Tuple.tupleHashOf (KTs.hash ts))
noncomputable def KTs.hash:List KT->List Int
 | []=> []
 |t::ts=>KT.hash t::KTs.hash ts
end
end
mutual
noncomputable def KT.draws:KT->Nat
 | .lf _=>1
 | .tp ts=>KTs.draws ts+1
noncomputable def KTs.draws:List KT->Nat
 | []=>0
 |t::ts=>KT.draws t+KTs.draws ts
end
theorem jW (prog:Program) (w:World):∀(a b:List KT),KTs.hash prog w (a++b)=KTs.hash prog w a++KTs.hash prog w b
 | [],b=>by simp [KTs.hash]
 |t::a,b=>by simp [KTs.hash,jW prog w a b]
theorem iq:∀(a b:List KT),KTs.draws (a++b)=KTs.draws a+KTs.draws b
 | [],b=>by simp [KTs.draws]
 |t::a,b=>by simp [KTs.draws,iq a b,Nat.add_assoc]
section
variable {prog:Program} {w:World}
theorem uC:∀(n:Nat) {A:Around} {E:Value->Shared->Prop} {s:Shared} {t:KT} {v:Value} {Q:Int->Shared->Prop},t.depth<=n->A.units+n < cLine->KAt s.heap v t->Q (t.hash prog w) {s with toks:=s.toks+t.draws}->wpAny (model prog w) A (pyHash v) Q E s:=by
 intro n
 induction n with
 |zero=>
  intro A E s t v Q hd hu hk h
  cases t with
  |tp ts=>simp [KT.depth] at hd
  |lf k=>
   unfold KAt at hk;simp only [KT.hash,KT.draws] at h;exact (aJ prog w).pyHash hk h
 |succ n ih=>
  intro A E s t v Q hd hu hk h
  cases t with
  |lf k=>
   unfold KAt at hk;simp only [KT.hash,KT.draws] at h;exact (aJ prog w).pyHash hk h
  |tp ts=>
   unfold KAt at hk;refine hZq fun q_ e_=> ?_;obtain ⟨a,o,items,m,rfl,g,c,d,r⟩:=hk;subst e_;have ty:s.TypeIs (.ref a) "tuple":=⟨o,g,c⟩
   have hd':KTs.depth ts<=n:=by
    unfold KT.depth at hd;omega
   simp only [KT.hash,KT.draws] at h;unfold pyHash;unfold pyHashByItsType;refine wpAny_bind (wpAny_cRoomFor_or (.inr (by omega)) (wpAny_bind (wpAny_specialOf ty F.slot_tuple_hash.lookup ?_)))
   show wpAny _ _ (if (some (Value.builtin "tuple.__hash__")==some Value.none)=true then _ else _) _ _ _;rw [if_neg (fun z=>by rw [beq_builtin_none] at z;cases z)]
   refine wpAny_bind (wpAny_specialOf ty F.slot_tuple_hash.lookup ?_);show wpAny _ _ (do let y<-callSpecialIfBoundUnlessNone? (.ref a) "__hash__" _;_) _ _ _
   refine wpAny_bind (wpAny_callSpecialIfBoundUnlessNone?_slot ty F.slot_tuple_hash (wpAny_call_entry F.slot_tuple_hash ty F.entry_tuple_hash ?_ (F.args_tuple_hash_1 _)));show wpAny _ _ (do let y<-Builtin.Tuple.tupleItemsOf (.ref a);_) _ _ _
   refine wpAny_bind (wpAny_tupleItemsOf g d (wpAny_bind ?_));rw [<-Array.forIn_toList];refine wpAny_forIn_list _ (fun rest (b:Array Int) s'=>∃done left,ts=done++left/\KsAt s.heap rest left/\b.toList=KTs.hash prog w done/\s'= {s with toks:=s.toks+KTs.draws done}) _ ?_ ?_ _ _ ⟨[],ts,rfl,r,rfl,by simp [KTs.draws]⟩
   . intro x rest b s' z_;refine hZq fun q_ e_=> ?_;obtain ⟨done,left,rfl,hl,hb,rfl⟩:=z_;subst e_
     cases left with
     |nil=>
      unfold KsAt at hl;cases hl
     |cons t left=>
      unfold KsAt at hl;refine hZq fun q_ e_=> ?_;obtain ⟨v,rr,e,h1,h2⟩:=hl;subst e_;cases e
      have dt:t.depth<=n:=by
       have:=e8 (show t∈done++t::left by simp)
       omega
      refine wpAny_bind (ih (s:= {s with toks:=s.toks+KTs.draws done}) dt (by first|(show A.units+1+n < cLine;omega)|(show A.units+n < cLine;omega)) h1 ?_)
      have fin:∃done' left',done++t::left=done'++left'/\KsAt s.heap rest left'/\(b.push (KT.hash prog w t)).toList=KTs.hash prog w done'/\({s with toks:=s.toks+KTs.draws done+t.draws}:Shared)= {s with toks:=s.toks+KTs.draws done'}:=by
       refine ⟨done++ [t],left,by simp,h2,by rw [jW,Array.toList_push,hb];simp [KTs.hash],?_⟩
       rw [iq];simp [KTs.draws,Nat.add_assoc]
      first
       |exact wpAny_pure fin
       |exact wpAny_bind (wpAny_pure (wpAny_pure fin))
   . intro b s' z_;refine hZq fun q_ e_=> ?_;obtain ⟨done,left,rfl,hl,hb,rfl⟩:=z_;subst e_
     cases left with
     |cons t left=>
      unfold KsAt at hl;obtain ⟨v,rr,e,_⟩:=hl;cases e
     |nil=>
      rw [List.append_nil] at h;show wpAny _ _ (retInt (Builtin.Tuple.tupleHashOf b.toList)) _ _ _;rw [hb];refine wpAny_ret_mkInt ?_;show wpAny _ _ (if (decide (-(2:Int)^63<=Builtin.Tuple.tupleHashOf (KTs.hash prog w done))&&decide (Builtin.Tuple.tupleHashOf (KTs.hash prog w done) < 2^63))=true then _ else _) _ _ _;unfold reduceHash at h;by_cases hr:(decide (-(2:Int)^63<=Builtin.Tuple.tupleHashOf (KTs.hash prog w done))&&decide (Builtin.Tuple.tupleHashOf (KTs.hash prog w done) < 2^63))=true
      . rw [if_pos hr] at h ⊢;exact wpAny_pure (by simpa [Nat.add_assoc] using h)
      . rw [if_neg hr] at h ⊢;exact wpAny_bind (wpAny_rule (wpAny_pure (by simpa [Nat.add_assoc] using h)))
end
open PySem PySem.Spec PyProof.Rows L2
theorem uL {ts us:List KT}:((List.range (min ts.length us.length)).all (fun j=>decide (ts[j]?=us[j]?))&&ts.length==us.length)=decide (ts=us):=by
 by_cases h:ts=us
 . subst h;simp
 . rw [decide_eq_false h];by_cases hl:ts.length=us.length
   . have:∃j,j < ts.length/\ts[j]?≠us[j]?:=by
      refine Classical.byContradiction fun n=>h (zQ fun j=> ?_);by_cases hj:j < ts.length
      . exact Classical.byContradiction fun z=>n ⟨j,hj,z⟩
      . rw [zb (by omega),zb (by omega)]
     obtain ⟨j,hj,ne⟩:=this;rw [Bool.and_eq_false_iff];left;refine List.all_eq_false.mpr ⟨j,yX.mpr (by omega),?_⟩
     simp [ne]
   . rw [Bool.and_eq_false_iff];right;simp [hl]
theorem yf:∀(n:Nat) {A:Around} {s:Shared} {t u:KT} {a b:Value},t.depth<=n->A.units+n+1 < cLine->KAt s.heap a t->KAt s.heap b u->SeqAt.EqAt A s a b (decide (t=u)):=by
 intro n
 induction n with
 |zero=>
  intro A s t u a b hd hu h1 h2
  cases t with
  |tp ts=>simp [KT.depth] at hd
  |lf k=>
   unfold KAt at h1
   cases u with
   |lf j=>
    unfold KAt at h2;intro prog w E Q q;refine (aJ prog w).eqBool h1 h2 ?_;have e:decide (k=j)=decide (KT.lf k=KT.lf j):=by simp
    rw [e];exact q
   |tp us=>
    unfold KAt at h2;refine hZq fun q_ e_=> ?_;obtain ⟨r,o,items,m,rfl,g,c,d,_⟩:=h2;subst e_;rw [decide_eq_false (by intro z;cases z)]
    rcases aB h1 with ⟨i,t,rfl,rfl⟩|⟨x,t,rfl,rfl⟩
    . exact SeqAt.EqAt.int_tuple i t (items:=items) ⟨o,g,c,m,d⟩ (by omega)
    . exact SeqAt.EqAt.str_tuple x t (items:=items) ⟨o,g,c,m,d⟩ (by omega)
 |succ n ih=>
  intro A s t u a b hd hu h1 h2
  cases t with
  |lf k=>
   unfold KAt at h1
   cases u with
   |lf j=>
    unfold KAt at h2;intro prog w E Q q;refine (aJ prog w).eqBool h1 h2 ?_;have e:decide (k=j)=decide (KT.lf k=KT.lf j):=by simp
    rw [e];exact q
   |tp us=>
    unfold KAt at h2;refine hZq fun q_ e_=> ?_;obtain ⟨r,o,items,m,rfl,g,c,d,_⟩:=h2;subst e_;rw [decide_eq_false (by intro z;cases z)]
    rcases aB h1 with ⟨i,t,rfl,rfl⟩|⟨x,t,rfl,rfl⟩
    . exact SeqAt.EqAt.int_tuple i t (items:=items) ⟨o,g,c,m,d⟩ (by omega)
    . exact SeqAt.EqAt.str_tuple x t (items:=items) ⟨o,g,c,m,d⟩ (by omega)
  |tp ts=>
   have h1':=h1;have h2':=h2;unfold KAt at h1;refine hZq fun q_ e_=> ?_;obtain ⟨r,o,items,m,rfl,g,c,d,k1⟩:=h1;subst e_
   cases u with
   |lf j=>
    unfold KAt at h2;rw [decide_eq_false (by intro z;cases z)]
    rcases aB h2 with ⟨i,t,rfl,rfl⟩|⟨x,t,rfl,rfl⟩
    . exact SeqAt.EqAt.tuple_int i t (items:=items) ⟨o,g,c,m,d⟩ (by omega)
    . exact SeqAt.EqAt.tuple_str x t (items:=items) ⟨o,g,c,m,d⟩ (by omega)
   |tp us=>
    unfold KAt at h2;refine hZq fun q_ e_=> ?_;obtain ⟨r',o',items',m',rfl,g',c',d',k2⟩:=h2;subst e_;by_cases z:r=r'
    . subst z;rw [decide_eq_true (KAt.det h1' h2')];exact SeqAt.EqAt.same _
    . have hd':KTs.depth ts<=n:=by
       unfold KT.depth at hd;omega
      have l1:=k1.len;have l2:=k2.len
      have:=SeqAt.RcAt.tuples (A:=A) (e:=fun j=>decide (ts[j]?=us[j]?)) (show s.heap.IsTuple r items from ⟨o,g,c,m,d⟩) (show s.heap.IsTuple r' items' from ⟨o',g',c',m',d'⟩) (by omega) fun j g1 g2=>by
       refine hZq fun q_ e_=> ?_;obtain ⟨t1,e1,a1⟩:=k1.get (j:=j) (v:=items[j]) (by rw [yQ];simp [g1])
       obtain ⟨t2,e2,a2⟩:=k2.get (j:=j) (v:=items'[j]) (by rw [yQ];simp [g2])
       subst e_;have e:decide (ts[j]?=us[j]?)=decide (t1=t2):=by rw [e1,e2];simp
       rw [e];refine ih (A:=A.in1) ?_ (by show A.units+1+n+1 < cLine;omega) a1 a2
       have:=e8 (yq e1);omega
      have hs1:items.size=ts.length:=by rw [<-l1,yP]
      have hs2:items'.size=us.length:=by rw [<-l2,yP]
      rw [hs1,hs2,uL] at this;have e:decide (KT.tp ts=KT.tp us)=decide (ts=us):=by simp
      rw [e];exact SeqAt.EqAt.of_refs z this
theorem qP:∀(n:Nat) {prog:Program} {w:World} {A:Around} {E:Value->Shared->Prop} {s:Shared} {t:KT} {v:Value} {Q:Bool->Shared->Prop},KAt s.heap v t->t.depth<=n->Q true s->wpAny (model prog w) A (eqIsQuiet n v) Q E s:=by
 have leaf:∀(n:Nat) {prog:Program} {w:World} {A:Around} {E:Value->Shared->Prop} {s:Shared} {k:Key} {v:Value} {Q:Bool->Shared->Prop},fK k v=true->Q true s->wpAny (model prog w) A (eqIsQuiet n v) Q E s:=by
  intro n prog w A E s k v Q h q;rw [eqIsQuiet_byValue _ ((aJ prog w).byValue k v h)];exact wpAny_pure q
 intro n
 induction n with
 |zero=>
  intro prog w A E s t v Q h hd q
  cases t with
  |tp ts=>simp [KT.depth] at hd
  |lf k=>
   unfold KAt at h;exact leaf 0 h q
 |succ n ih=>
  intro prog w A E s t v Q h hd q
  cases t with
  |lf k=>
   unfold KAt at h;exact leaf _ h q
  |tp ts=>
   unfold KAt at h;refine hZq fun q_ e_=> ?_;obtain ⟨a,o,items,m,rfl,g,c,d,r⟩:=h;subst e_;have ty:s.TypeIs (.ref a) "tuple":=⟨o,g,c⟩
   have hd':KTs.depth ts<=n:=by
    unfold KT.depth at hd;omega
   unfold eqIsQuiet;refine wpAny_bind (wpAny_specialOf ty F.slot_tuple_eq.lookup ?_);show wpAny _ _ (do let y<-isInstance (.ref a) (.type "tuple");_) _ _ _
   refine wpAny_bind (wpAny_isInstance ty isSubtype_tuple_tuple ?_);simp only [Bool.not_true,if_false,zm];refine wpAny_bind (wpAny_seqItems g d (wpAny_bind ?_));show wpAny _ _ (forIn items _ _) _ _ _;rw [<-Array.forIn_toList];refine wpAny_forIn_list _ (fun rest b s'=>b.1=none/\s'=s/\∃left,KsAt s.heap rest left/\KTs.depth left<=n) _ ?_ ?_ _ _ ⟨rfl,rfl,ts,r,hd'⟩
   . intro x rest b s' z_;refine hZq fun q_ e_=> ?_;obtain ⟨hb,rfl,left,hl,hd2⟩:=z_;subst e_
     cases left with
     |nil=>
      unfold KsAt at hl;cases hl
     |cons t left=>
      unfold KsAt at hl;refine hZq fun q_ e_=> ?_;obtain ⟨v,rr,e,h1,h2⟩:=hl;subst e_;cases e;unfold KTs.depth at hd2;refine wpAny_bind (ih h1 (by omega) ?_)
      simp only [Bool.not_true,if_false,zm];exact wpAny_pure ⟨rfl,rfl,left,h2,by omega⟩
   . rintro ⟨b1,b2⟩ s' ⟨hb,rfl,_⟩;simp only at hb;subst hb;exact wpAny_pure q
noncomputable def treeKind (prog:Program) (w:World):HeapKind prog w (List KT) where
 is:=fun h ts a=>KAt h (.ref a) (.tp ts)/\(KT.tp ts).depth<=8
 hash:=fun ts=>(KT.tp ts).hash prog w
 draws:=fun ts=>(KT.tp ts).draws
 room:=fun A=>A.units+20 < cLine
 inj:=fun x y=>by
  have:=KAt.det x.1 y.1;injection this
 keeps:=fun {h h' k a d o es ep} x g hd sb=>⟨x.1.keep fun b ob items n e dt=>by
  have ne:b≠d:=fun z=>by
   subst z;rw [g] at e;cases e;rw [hd] at dt;cases dt
  exact (sb.2 b ne).trans e,x.2⟩
 pyHash:=fun hu x q=>uC 8 x.2 (by omega) x.1 q
 eqBool:=fun {A E s x y a b Q} hu hx hy q=>by
  refine yf 8 (t:= .tp x) (u:= .tp y) hx.2 (by omega) hx.1 hy.1 prog w E Q ?_
  have e:decide (KT.tp x=KT.tp y)=decide (x=y):=by simp
  rw [e];exact q
 quiet:=fun x q=>qP 8 x.1 x.2 q
end Tk
namespace L2
section
open PySem
variable {prog:Program} {w:World} {A:Around} {R:Result->Shared->Prop} {s:Shared}
theorem gT {elt target iter:Expr} {ifs:List Expr} {scope:Scope} {pos:Pos} {it acc:Value} {env:Env} (I:Nat->Shared->Prop)
 (turn:∀n s,I n s->wpAny (model prog w) A (pyNext it) (fun r s₁=>match r with
  |none=>R (.ok .next) s₁
  |some v=>wpAny (model prog w) A (letOwnedTupleGo target it v) (fun _ s₁'=>wpAny (model prog w) A (assign target env v) (fun _ s₂=>
   wpAny (model prog w) A (forIn ifs true fun c r=>if r=true then do let ok<-isTrue c env (eval c env);pure (ForInStep.yield ok) else pure (ForInStep.yield r)) (fun ok s₃=>
    if ok=true then wpAny (model prog w) A (eval elt env) (fun x s₄=>
     wpAny (model prog w) A (call (.builtin "list.append") [acc,x]) (fun _ s₅=>∃m,m < n/\I m s₅) (fun _ _=>False) s₄) (fun _ _=>False) s₃
    else∃m,m < n/\I m s₃) (fun _ _=>False) s₂) (fun _ _=>False) s₁') (fun _ _=>False) s₁) (fun _ _=>False) s)
 (n:Nat) (h:I n s):codeAny (model prog w) A (.compLoop (.ListComp elt [⟨target,iter,ifs,0⟩] scope pos) 0 it acc env) R s:=by
 refine codeAny_loop rfl I (fun n s hI=> ?_) n h;show wpAny _ A ((compTurn (.ListComp elt [⟨target,iter,ifs,0⟩] scope pos) 0 it acc env).onRaise (fun x=>do noteFrame x env;theTreesLotGoes x)) _ _ s
 refine wpAny_noted ?_;rw [compTurn_list];refine wpAny_bind (wpAny_standAt (wpAny_bind (wpAny_mono (turn n s hI) (fun r s₁ h₁=> ?_) fun _ _ z=>z.elim)))
 cases r with
 |none=>exact wpAny_pure h₁
 |some v=>
  refine wpAny_bind (wpAny_mono h₁ (fun _ s₁' h₁'=> ?_) fun _ _ z=>z.elim);refine wpAny_bind (wpAny_mono h₁' (fun _ s₂ h₂=>wpAny_bind (wpAny_mono h₂ (fun ok s₃ h₃=> ?_) fun _ _ z=>z.elim)) fun _ _ z=>z.elim)
  cases ok with
  |false=>exact wpAny_pure ⟨rfl,h₃⟩
  |true=>
   exact wpAny_bind (wpAny_bind (wpAny_mono h₃ (fun x s₄ h₄=>wpAny_bind (wpAny_mono h₄ (fun _ s₅ h₅=>wpAny_pure (wpAny_pure ⟨rfl,h₅⟩)) fun _ _ z=>z.elim)) fun _ _ z=>z.elim))
noncomputable def cg (names:List (Str×NameKind)) (cells:List (Str×Addr)):List (Str×Addr)->List (Str×Addr):=match names with
 | []=>fun cs=>cs
 |(n,k)::r=>fun cs=>cg r cells (if (k== .free)=true then (n,(cells.lookup n).getD 0)::cs else cs)
noncomputable def bG (names:List (Str×NameKind)) (cells:List (Str×Addr)):Bool:=names.all fun y=> !(y.2== .free) ||(cells.lookup y.1).isSome
theorem jq (env:Env):∀(names:List (Str×NameKind)) (cs:List (Str×Addr)),bG names env.cells=true->
 (forIn names cs fun (x:Str×NameKind) (r:List (Str×Addr))=>match x with
  |(name,kind)=>if (kind==NameKind.free)=true then do let __do_lift<-cellOf env name;pure (ForInStep.yield ((name,__do_lift)::r)) else pure (ForInStep.yield r):Sem (List (Str×Addr)))=pure (cg names env.cells cs)
 | [],cs,_=>rfl
 |(n,k)::r,cs,h=>by
  unfold bG at h;rw [List.all_cons,Bool.and_eq_true] at h;rw [List.forIn_cons];unfold cg;by_cases hk:(k==NameKind.free)=true
  . rw [if_pos hk];dsimp only;rw [if_pos hk]
    have h1:(env.cells.lookup n).isSome=true:=by
     have:=h.1;rw [hk] at this;simpa using this
    obtain ⟨c,hc⟩:=Option.isSome_iff_exists.mp h1;have e:cellOf env n=pure c:=by unfold cellOf;rw [hc]
    rw [e,hc];exact jq env r _ h.2
  . rw [if_neg hk];dsimp only;rw [if_neg hk];exact jq env r _ h.2
theorem ge {scope:Scope} {env:Env} (h:bG scope.names env.cells=true):closureFor scope env=pure (cg scope.names env.cells []):=by
 unfold closureFor;have:=jq env scope.names [] h;simp only [bind_pure];exact this
theorem ke {cells:List (Str×Addr)}:∀(names:List (Str×NameKind)) (cs:List (Str×Addr)),bG names cells=true->(∀y c,cs.lookup y=some c->cells.lookup y=some c)->∀y c,(cg names cells cs).lookup y=some c->cells.lookup y=some c
 | [],cs,_,hc,y,c,e=>hc y c e
 |(n,k)::r,cs,h,hc,y,c,e=>by
  unfold bG at h;rw [List.all_cons,Bool.and_eq_true] at h;refine ke r _ h.2 (fun z d q=> ?_) y c e;by_cases hk:(k==NameKind.free)=true
  . rw [if_pos hk,ze] at q
    cases zn:(z==n) with
    |true=>
     rw [zn] at q
     have h1:(cells.lookup n).isSome=true:=by
      have:=h.1;rw [hk] at this;simpa using this
     obtain ⟨c',hc'⟩:=Option.isSome_iff_exists.mp h1;have zn':z=n:=by simpa using zn
     rw [zn',hc'];have q':some ((cells.lookup n).getD 0)=some d:=q;rw [hc'] at q';exact q'
    |false=>
     rw [zn] at q;exact hc z d q
  . rw [if_neg hk] at q;exact hc z d q
theorem iw {cells:List (Str×Addr)}:∀(names:List (Str×NameKind)) (cs:List (Str×Addr)) (y:Str),(∃c,cs.lookup y=some c)->∃c,(cg names cells cs).lookup y=some c
 | [],cs,y,h=>h
 |(n,k)::r,cs,y,h=>by
  refine iw r _ y ?_;by_cases hk:(k==NameKind.free)=true
  . rw [if_pos hk,ze]
    cases zn:(y==n) with
    |true=>exact ⟨_,rfl⟩
    |false=>exact h
  . rw [if_neg hk];exact h
theorem gY {cells:List (Str×Addr)}:∀(names:List (Str×NameKind)) (cs:List (Str×Addr)) (y:Str),(y,NameKind.free)∈names->∃c,(cg names cells cs).lookup y=some c
 | [],_,y,h=>by cases h
 |(n,k)::r,cs,y,h=>by
  rcases yx.mp h with e|h
  . obtain ⟨e1,e2⟩:=Prod.mk.inj e;subst e1;subst e2;unfold cg;refine iw r _ y ?_;rw [if_pos (show (NameKind.free==NameKind.free)=true from rfl),ze];have:(y==y)=true:=by simp
    rw [this];exact ⟨_,rfl⟩
  . exact gY r _ y h
end
open PySem PySem.Spec PyProof.Rows
noncomputable abbrev XC (X:Cx) (scope:Scope) (NC:List Str) (C:Addr) (s:Shared) (H:Hp) (fp:List Addr) (pn:List (Addr×Obj)):Cx:=
 {X with N:=NC,s₀:=s,H₀:=H,env:=compEnvC scope (cg scope.names X.env.cells []) C X.env,outer:=X.stack,stack:=X.stack,ex:=fp,fn:=fun _=>false,pn:=pn,xe:=fun _ _=>False}
noncomputable def subS (mp:List (Option Nat)) (σ:St):St:=mp.map fun o=>match o with
 |some i=>(σ[i]?).getD none
 |none=>none
noncomputable def gM (N NC:List Str) (mp:List (Option Nat)) (names outer:List (Str×NameKind)):Bool:=(List.range mp.length).all fun j=>match mp[j]? with
 |some (some i)=>(match NC[j]?,N[i]? with
  |some y,some z=>y==z&&names.lookup y==some NameKind.free&& (outer.lookup y==some NameKind.cell ||outer.lookup y==some NameKind.free)
  |_,_=>false)
 |_=>true
theorem rB {N NC:List Str} {mp:List (Option Nat)} {names outer:List (Str×NameKind)} (h:gM N NC mp names outer=true) {j i:Nat} (e:mp[j]?=some (some i)):∃y,NC[j]?=some y/\N[i]?=some y/\names.lookup y=some .free/\(outer.lookup y=some .cell\/outer.lookup y=some .free):=by
 unfold gM at h;rw [List.all_eq_true] at h;have hj:j < mp.length:=(yt.mp e).1;have:=h j (yX.mpr hj);rw [e] at this;dsimp only at this;split at this
 . rename_i y z e1 e2;simp only [Bool.and_eq_true,Bool.or_eq_true,beq_iff_eq] at this;obtain ⟨⟨rfl,h2⟩,h3⟩:=this;exact ⟨y,e1,e2,h2,h3⟩
 . cases this
def PTs (X:Cx) (ifs:List Expr) (t:TT):Prop:=
 ∀(pins:List (Addr×Obj)) (s:Shared) (σ:St) (H:Hp) (Q:Bool->Hp->Prop),Inv X pins σ H s->t σ H Q->
  wpAny (model X.prog X.w) X.A (forIn ifs true fun c r=>if r=true then do let ok<-isTrue c X.env (eval c X.env);pure (ForInStep.yield ok) else pure (ForInStep.yield r)) (TP X pins σ Q) X.xe s
def cZ:TT:=fun _ H Q=>Q true H
theorem aS {X:Cx}:PTs X [] cZ:=fun _ _ σ H Q I h=>wpAny_tests_nil ⟨H,I,h⟩
theorem db {X:Cx} {c:Expr} {t:TT} (hc:PT X c t):PTs X [c] t:=fun pins s σ H Q I h=>wpAny_tests_one (hc pins s σ H Q I h)
def Ext (σ σ':St):Prop:=∀(j:Nat) (v:V),σ[j]?=some (some v)->σ'[j]?=some (some v)
theorem Ext.refl (σ:St):Ext σ σ:=fun _ _ e=>e
theorem ext1 {o:Option V} {r:St}:Ext (none::r) (o::r)
 |0,v,e=>by cases (yF (show some (none:Option V)=some (some v) from e))
 |j+1,v,e=>e
theorem ext2 {o p:Option V} {r:St}:Ext (none::none::r) (o::p::r)
 |0,v,e=>by cases (yF (show some (none:Option V)=some (some v) from e))
 |1,v,e=>by cases (yF (show some (none:Option V)=some (some v) from e))
 |j+2,v,e=>e
def cu (mp:List (Option Nat)) (wi:TI) (g:TG) (tc:TT) (te:TE):TE:=fun σ H Q=>wi σ H fun J H1=>∀D,H1 D=none->
 ∃W:Nat->Nat->List V->Hp->Prop,(∃m,W 0 m [] (upd H1 D (.lst [])))/\∀i m acc H2,W i m acc H2->
  (J.stop i H2/\Q (.ref D) H2)\/
  (J.go i H2/\∀x H3,J.yld i H2 x H3->g x (subS mp σ) H3 fun σ4 H4=>Ext (subS mp σ) σ4/\tc σ4 H4 fun b H5=>if b=true then te σ4 H5 fun v H6=>H6 D=some (.lst acc)/\acc.length < sizeLine/\∃m',m' < m/\W (i+1) m' (acc++ [v]) (upd H6 D (.lst (acc++ [v])))
   else∃m',m' < m/\W (i+1) m' acc H5)
open PySem PySem.Spec PyProof.Rows
theorem cz {env:Env}:∀ {names:List (Str×NameKind)} {x:Str},names.lookup x=some .free->
 (names.map fun (n,k)=>if (k==NameKind.free&&env.scope.kind== .function&&env.kindOf n==some .cell) then (n,NameKind.cell) else (n,k)).lookup x=some .cell\/
 (names.map fun (n,k)=>if (k==NameKind.free&&env.scope.kind== .function&&env.kindOf n==some .cell) then (n,NameKind.cell) else (n,k)).lookup x=some .free
 | [],_,h=>by simp at h
 |(n,k)::r,x,h=>by
  have ih:= @cz env r x;show List.lookup x ((if (k==NameKind.free&&env.scope.kind== .function&&env.kindOf n==some .cell)=true then (n,NameKind.cell) else (n,k))::_)=_\/List.lookup x ((if (k==NameKind.free&&env.scope.kind== .function&&env.kindOf n==some .cell)=true then (n,NameKind.cell) else (n,k))::_)=_
  cases hx:x==n with
  |true=>
   simp only [ze,hx] at h;cases h;by_cases hc:(NameKind.free==NameKind.free&&env.scope.kind== .function&&env.kindOf n==some .cell)=true
   . rw [if_pos hc];left;simp only [ze,hx]
   . rw [if_neg hc];right;simp only [ze,hx]
  |false=>
   simp only [ze,hx] at h;by_cases hc:(k==NameKind.free&&env.scope.kind== .function&&env.kindOf n==some .cell)=true
   . rw [if_pos hc];simp only [ze,hx];exact ih h
   . rw [if_neg hc];simp only [ze,hx];exact ih h
theorem fw {env:Env}:∀ {names:List (Str×NameKind)} {x:Str},(∀y∈names,y.2≠ .cell)->
 ((names.map fun (n,k)=>if (k==NameKind.free&&env.scope.kind== .function&&env.kindOf n==some .cell) then (n,NameKind.cell) else (n,k)).lookup x=some .cell\/
 (names.map fun (n,k)=>if (k==NameKind.free&&env.scope.kind== .function&&env.kindOf n==some .cell) then (n,NameKind.cell) else (n,k)).lookup x=some .free)->(x,NameKind.free)∈names
 | [],_,_,h=>by simp at h
 |(n,k)::r,x,hn,h=>by
  have ih:= @fw env r x (fun y hy=>hn y (ym _ hy));have nk:k≠ .cell:=hn (n,k) yn;rw [yG] at h;dsimp only at h
  cases hx:x==n with
  |true=>
   have xn:x=n:=by simpa using hx
   subst xn;by_cases hc:(k==NameKind.free&&env.scope.kind== .function&&env.kindOf x==some .cell)=true
   . have:k= .free:=by
      have:=hc;rw [Bool.and_eq_true,Bool.and_eq_true] at this;simpa using this.1.1
     rw [this];exact yn
   . rw [if_neg hc,ze,hx] at h;rcases h with h|h
     . exact absurd (yF h) nk
     . cases (yF h);exact yn
  |false=>
   refine ym _ (ih ?_);by_cases hc:(k==NameKind.free&&env.scope.kind== .function&&env.kindOf n==some .cell)=true
   . rw [if_pos hc,ze,hx] at h;exact h
   . rw [if_neg hc,ze,hx] at h;exact h
section
variable {X:Cx} {pins:List (Addr×Obj)} {σ:St} {H:Hp} {s:Shared}
theorem Inv.block {scope:Scope} {NC:List Str} {mp:List (Option Nat)} {fp:List Addr} {h1:Heap} {tk:Nat} {m:Str->Option Value} (I:Inv X pins σ H s) (hf:∀b∈fp,FpOk X pins H b) (hlt:∀b∈fp,b < s.heap.objs.size) (hk:scope.kind= .function) (hnc:∀y∈scope.names,y.2≠ .cell)
 (hc:bG scope.names X.env.cells=true) (hl:mp.length=NC.length) (hm:gM X.N NC mp scope.names X.env.scope.names=true) (kp:∀b o,s.heap.get? b=some o->h1.get? b=some o) (hn:h1.Ns s.heap.objs.size m):
 Inv (XC X scope NC s.heap.objs.size s H fp (X.pn++pins)) [] (subS mp σ) H {s with heap:=h1,toks:=tk}:=by
 have sub:=ke (cells:=X.env.cells) scope.names [] hc (fun y c e=>by cases e)
 have lt:∀b o,s.heap.get? b=some o->b≠s.heap.objs.size:=fun b o e=>yA (Heap.lt_size e)
 have nst:∀b,b≠X.env.locals->b∉X.fs->b∉frs X.stack:=fun b h1 h2 z=>by
  rcases yx.mp (I.stkSub b z) with e|e
  . exact h1 e
  . exact h2 e
 refine ⟨⟨I.ok.mod,hk,I.ok.glob,I.ok.blt,yp _,fun x y c e1 e2=>I.ok.inj x y c (sub x c e1) (sub y c e2),fun x hx=> ?_,(fun _ _ z=>by cases z),I.ok.hd,I.ok.frames, .inl rfl,fun b hb=> ?_,fun b o e=> ?_,yC I.ok.bsz I.sz,fun b o e hb=> ?_,fun b hb=> ?_,I.stack,I.stkFree⟩,
  rfl,I.bare,Un.kept kp,⟨m,hn,fun j y v e1 e2 e3=> ?_⟩,fun y c e=> ?_,I.hok.fresh (yp _),fun y c e=>I.freeC y c (sub y c e),fun p hp=> ?_,I.hok.kept kp,?_⟩
 . exact gY scope.names [] x (fw hnc hx)
 . refine hZq fun q_ e_=> ?_;obtain ⟨f0,f1,f2,f3,f4,f5⟩:=hf b hb;subst e_;exact ⟨yA (hlt b hb),fun x c e=>f4 x c (sub x c e)⟩
 . obtain ⟨h1,h2⟩:=I.bs b o e;exact ⟨h1,h2⟩
 . refine hZq fun q_ e_=> ?_;obtain ⟨f0,f1,f2,f3,f4,f5⟩:=hf b hb;subst e_;rcases f3 with z|z
   . exact I.ok.noex b o e z
   . exact absurd (yL (Heap.lt_size e) (yC I.ok.bsz z)) (zL _)
 . refine hZq fun q_ e_=> ?_;obtain ⟨f0,f1,f2,f3,f4,f5⟩:=hf b hb;subst e_;exact nst b f1 f2
 ·
  unfold subS at e2;rw [yo] at e2
  cases q:mp[j]? with
  |none=>rw [q] at e2;cases e2
  |some o=>
   rw [q] at e2
   cases o with
   |none=>cases e2
   |some i=>
    have e2':some ((σ[i]?).getD none)=some (some v):=e2;refine hZq fun q_ e_=> ?_;obtain ⟨z,y1,y2,y3,y4⟩:=rB hm q;have yz:y=z:=yF ((show NC[j]?=some y from e1).symm.trans y1);subst yz
    have e4:σ[i]?=some (some v):=by
     cases w:σ[i]? with
     |none=>rw [w] at e2';cases e2'
     |some t=>rw [w] at e2';exact e2'
    obtain ⟨m0,hn0,hl0⟩:=I.loc;obtain ⟨c,hcl⟩:=gY (cells:=X.env.cells) scope.names [] y (PySem.mem_of_lookup y3);have hcx:=sub y c hcl;have vis:Vis X.env.scope y:= .inr y4;obtain ⟨u,ru,lk⟩:=hl0 i y v y2 e4 vis;subst e_;refine ⟨u,ru, .inr ⟨cz y3,c,hcl,?_⟩⟩;rcases lk with ⟨k1,_⟩|⟨_,c',k2,k3⟩
    . have k1':X.env.scope.names.lookup y=some .local:=k1;rcases y4 with y4|y4<;>(rw [y4] at k1';cases k1')
    . rw [hcx] at k2;cases k2;obtain ⟨oc,q1,q2⟩:=k3;exact ⟨oc,kp _ _ q1,q2⟩
 . obtain ⟨v,oc,q1,q2⟩:=I.cell y c (sub y c e);exact ⟨v,oc,kp _ _ q1,q2⟩
 . have hp':p∈X.pn++pins:=by simpa using hp
   refine hZq fun q_ e_=> ?_;obtain ⟨q1,q2,q3,q4,q5⟩:=I.pin p hp';subst e_;exact ⟨kp _ _ q1,q2,lt _ _ q1,nst _ q3 q4,q5⟩
 . show (subS mp σ).length=NC.length;unfold subS;rw [yi,hl]
variable {elt target iter:Expr} {ifs:List Expr} {scope:Scope} {NC:List Str} {mp:List (Option Nat)} {pos:Pos} {wi:TI} {g:TG} {tc:TT} {te:TE}
theorem aV (hcalm:X.calm=true) (hi:PI X target iter wi) (hg:∀C s H fp pn,PG (XC X scope NC C s H fp pn) target g) (ht:∀C s H fp pn,PTs (XC X scope NC C s H fp pn) ifs tc) (he:∀C s H fp pn,PE (XC X scope NC C s H fp pn) elt te)
 (hl:mp.length=NC.length:=by rfl) (hm:gM X.N NC mp scope.names X.env.scope.names=true:=by rfl) (hc:bG scope.names X.env.cells=true:=by rfl) (hk:scope.kind= .function:=by rfl)
 (hnc:∀y∈scope.names,y.2≠ .cell:=by decide +kernel) (hnm:∀y∈scope.names,y.2= .local->scope.names.lookup y.1=some .local:=by decide +kernel) (hs:∀x,foldedSetIterable iter X.env x=pure x:=by intro _;rfl):
 PE X (.ListComp elt [⟨target,iter,ifs,0⟩] scope pos) (cu mp wi g tc te):=by
 intro pins s σ H Q I h;rw [eval_ListComp];refine wpAny_comprehension_free (use:=none) rfl hs (ge hc) hk hnm (thn (hi pins s σ H _ I h) fun v s1 h1=>thn h1 fun itv s2 h2=> ?_);refine hZq fun q_ e_=> ?_;obtain ⟨it,fp,tn,J,H2,e,I2,T,st2,f2,W⟩:=h2;subst e_;subst e;refine wpAny_newObj_type ?_ (by show 0<=sizeLine;decide)
 have nD:H2 s2.heap.objs.size=none:=I2.hok.fresh (yp _)
 have I3:Inv X pins σ (upd H2 s2.heap.objs.size (.lst [])) {s2 with heap:=s2.heap.push {cls:= .type "list",data:= .seq ([]:List Value).toArray}}:=
  I2.laid (t':=s2.toks) (fun b u e=>Heap.get?_push_of_some _ e) (yp _) ⟨by show 0<=sizeLine;decide,[],0, .nil,Heap.get?_push_size _ rfl⟩
 obtain ⟨W,⟨m0,w0⟩,turn⟩:=W _ nD
 have lt2:∀b∈fp,b < s2.heap.objs.size:=fun b hb=>by
  obtain ⟨o,e,_⟩:=T.obj 0 _ st2 b hb;exact Heap.lt_size e
 have nDf:∀b∈fp,b≠s2.heap.objs.size:=fun b hb=>yA (lt2 b hb)
 have f3:∀b∈fp,FpOk X pins (upd H2 s2.heap.objs.size (.lst [])) b:=fun b hb=>by
  obtain ⟨g0,g1⟩:=f2 b hb;exact ⟨by rw [ae (nDf b hb)];exact g0,g1⟩
 have st3:tn 0 (s2.heap.push {cls:= .type "list",data:= .seq ([]:List Value).toArray}):=T.keep 0 _ _ st2 fun b _ o e=>Heap.get?_push_of_some _ e
 have lt3:∀b∈fp,b < (s2.heap.push {cls:= .type "list",data:= .seq ([]:List Value).toArray}).objs.size:=fun b hb=>by
  rw [Heap.size_push];exact zc (lt2 b hb)
 generalize hD:s2.heap.objs.size=D at*;generalize hs3:({s2 with heap:=s2.heap.push {cls:= .type "list",data:= .seq ([]:List Value).toArray}}:Shared)=s3 at*;have hh3:s3.heap=s2.heap.push {cls:= .type "list",data:= .seq ([]:List Value).toArray}:=by rw [<-hs3]
 rw [<-hh3] at st3 lt3;generalize hH3:upd H2 D (.lst [])=H3 at*;refine wpAny_newFunctionEnv (around:=some X.env) hnc (by intro y hy;cases hy) (fun h4 hn4 hsb4=> ?_) hk
 have kp4:∀b o,s3.heap.get? b=some o->h4.get? b=some o:=fun b o e=>hsb4.extBut b o (yA (Heap.lt_size e)) (Heap.get?_push_of_some _ e);have I4:=I3.block (tk:=s3.toks+([]:List (Str×Value)).length) f3 lt3 hk hnc hc hl hm kp4 hn4;have st4:tn 0 h4:=T.keep 0 _ _ st3 fun b _ o e=>kp4 b o e
 have fin:∀(s5:Shared) (σ5:St) (H5:Hp),Inv (XC X scope NC s3.heap.objs.size s3 H3 fp (X.pn++pins)) [] σ5 H5 s5->Q (.ref D) H5->compPost (model X.prog X.w) X.A X.xe none (EP X pins σ Q) (.ref D) s3.heap.objs.size (.ok .next) s5:=by
  intro s5 σ5 H5 I5 q5;obtain ⟨m5,hn5,_⟩:=id I5.loc;refine ⟨m5,hn5,fun h6 sb6=>⟨.ref D,H5,?_,rfl,q5⟩⟩;have kp6:∀b o,b≠s3.heap.objs.size->s5.heap.get? b=some o->h6.get? b=some o:=fun b o hb e=>sb6.extBut b o hb e;have nC:∀b o,s3.heap.get? b=some o->b≠s3.heap.objs.size:=fun b o e=>yA (Heap.lt_size e);have un:Un (frs X.stack) fp H3 H5 s3.heap s5.heap:=I5.base;have hfree:H5 s3.heap.objs.size=none:=I5.free;refine I3.call' (s':= {s5 with heap:=h6}) (ch:=fp) I5.os ⟨fun b o e n hb hx=>kp6 b o (nC b o e) (un.keep b o e n hb hx),fun b o e n hb hx=> ?_,un.free,fun b o e hx=> ?_,un.tups,un.frzs,un.tbls⟩ ?_ I5.bare (fun b hb=> ?_)
  . obtain ⟨sl,e1⟩:=un.slot b o e n hb hx;exact ⟨sl,kp6 b _ (nC b o e) e1⟩
  . obtain ⟨o',e1⟩:=un.there b o e hx;exact ⟨o',kp6 b o' (nC b o e) e1⟩
  . intro b o e;have nb:b≠s3.heap.objs.size:=fun z=>by rw [z,hfree] at e;cases e
    refine (I5.hok b o e).stay (fun c v hc' r=>kp6 c v ?_ r) (fun _ r=>r) fun _ _ r=>r;rcases hc' with z|z
    . rw [z];exact nb
    . intro y;rw [y,hfree] at z;cases z
  . refine hZq fun q_ e_=> ?_;obtain ⟨g0,g1,g2,g3,g4,g5⟩:=f3 b hb;subst e_;exact ⟨g3,g1,g4,g5⟩
 have loop:codeAny (model X.prog X.w) X.A (.compLoop (.ListComp elt [⟨target,iter,ifs,0⟩] scope pos) 0 (.ref it) (.ref D) (compEnvC scope (cg scope.names X.env.cells []) s3.heap.objs.size X.env)) (compPost (model X.prog X.w) X.A X.xe none (EP X pins σ Q) (.ref D) s3.heap.objs.size)
  {s3 with heap:=h4,toks:=s3.toks+([]:List (Str×Value)).length}:=by
  refine gT (fun n s'=>∃i acc σ' H',Inv (XC X scope NC s3.heap.objs.size s3 H3 fp (X.pn++pins)) [] σ' H' s'/\Ext (subS mp σ) σ'/\tn i s'.heap/\(∀b∈fp,H' b=none)/\W i n acc H') ?_ m0
   ⟨0,[],subS mp σ,H3,I4,fun _ _ e=>e,st4,fun b hb=>(f3 b hb).1,w0⟩
  intro n s5 z_;refine hZq fun q_ e_=> ?_;obtain ⟨i,acc,σ5,H5,I5,hσ,st5,fr5,w5⟩:=z_;subst e_;have I5':Inv (XC X scope NC s3.heap.objs.size s3 H3 fp (X.pn++pins)) [] (subS mp σ) H5 s5:=I5.weak (by rw [I5.len];unfold subS;rw [yi];exact hl) hσ
  have fpk:∀ {H':Hp},(∀b∈fp,H' b=none)->∀b∈fp,FpOk (XC X scope NC s3.heap.objs.size s3 H3 fp (X.pn++pins)) [] H' b:=fun hn b hb=>by
   refine hZq fun q_ e_=> ?_;obtain ⟨g0,g1,g2,g3,g4,g5⟩:=f3 b hb;subst e_;refine ⟨hn b hb,yA (lt3 b hb),?_, .inl hb,(I4.ok.exf b hb).2,fun p hp=>g5 p (by simpa using hp)⟩
   exact I4.ok.exfs b hb
  rcases turn i n acc H5 w5 with ⟨stop,q⟩|⟨go,step⟩
  . refine thn (T.done (XC X scope NC s3.heap.objs.size s3 H3 fp (X.pn++pins)) rfl rfl rfl hcalm i [] s5 _ H5 (fun _ _=>False) I5' (fpk fr5) st5 stop) fun r s6 ⟨hr,I6⟩=> ?_;subst hr;exact fin s6 _ H5 I6 q
  . refine thn (T.item (XC X scope NC s3.heap.objs.size s3 H3 fp (X.pn++pins)) rfl rfl rfl hcalm i [] s5 _ H5 (fun _ _=>False) I5' (fpk fr5) st5 go) fun r s6 ⟨u,hr,h6⟩=> ?_;subst hr;refine thn h6 fun _ s7 ⟨x,H7,I7,r7,y7,st7,fr7⟩=> ?_;have I7':=I7.pinned (fpk fr7) (T.obj _ _ st7);refine thn (hg _ _ _ _ _ _ s7 _ H7 x u _ I7' r7 (step x H7 y7)) fun _ s8 ⟨σ8,H8,I8,ext8,q8⟩=> ?_;refine thn (ht _ _ _ _ _ _ s8 σ8 H8 _ I8 q8) fun ok s9 ⟨H9,I9,q9⟩=> ?_
    have again:∀ {σ':St} {H':Hp} {s':Shared} {acc':List V} {m':Nat},Inv (XC X scope NC s3.heap.objs.size s3 H3 fp (X.pn++pins)) ([]++dw fp s7.heap) σ' H' s'->Ext (subS mp σ) σ'->m' < n->W (i+1) m' acc' H'->
     ∃m,m < n/\∃i acc σ' H',Inv (XC X scope NC s3.heap.objs.size s3 H3 fp (X.pn++pins)) [] σ' H' s'/\Ext (subS mp σ) σ'/\tn i s'.heap/\(∀b∈fp,H' b=none)/\W i m acc H':=by
     intro σ' H' s' acc' m' I' hσ' hm' w';refine ⟨m',hm',i+1,acc',σ',H',I'.unpinned,hσ',T.keep _ _ _ st7 fun b hb o e=>(I'.pin (b,o) (yB _ (yB _ (aX hb e)))).1,fun b hb=> ?_,w'⟩;obtain ⟨o,e,d⟩:=T.obj _ _ st7 b hb;exact (I'.pin (b,o) (yB _ (yB _ (aX hb e)))).2.1
    cases ok with
    |false=>
     rw [if_neg yE] at q9;rw [if_neg yE];obtain ⟨m',hm',w'⟩:=q9;exact again I9 ext8 hm' w'
    |true=>
     rw [if_pos rfl] at q9;rw [if_pos rfl];refine thn (he _ _ _ _ _ _ s9 σ8 H9 _ I9 q9) fun v s10 ⟨y,H10,I10,r10,hD10,hz,m',hm',w'⟩=> ?_;refine thn (cV (X:=XC X scope NC s3.heap.objs.size s3 H3 fp (X.pn++pins)) _ s10 σ8 H10 (.ref D) [y] (.ref D) [v] (fun _ H'=>H'=upd H10 D (.lst (acc++ [y]))) I10 rfl (.cons r10 .nil) ⟨D,acc,y,rfl,rfl,hD10,hz,rfl⟩) fun _ s11 ⟨_,H11,I11,_,e11⟩=> ?_;subst e11;exact again I11 ext8 hm' w'
 exact codeAny_compStart_list loop (T.self _ 0 _ _ _ st4 loop)
end
open PySem PySem.Spec PyProof.Rows
section
variable {X:Cx} {pins:List (Addr×Obj)} {σ:St} {H:Hp} {s:Shared}
theorem nX {h h':Heap} {a b:Addr} {m:Str->Option Value} (hn:h.Ns a m) (sb:Heap.SameBut b h h') (ne:a≠b):h'.Ns a m:=by
 obtain ⟨o,es,ep,ho,r⟩:=hn;exact ⟨o,es,ep,(sb.2 a ne).trans ho,r⟩
variable {elt target iter:Expr} {ifs:List Expr} {scope:Scope} {NC:List Str} {mp:List (Option Nat)} {pos spos:Pos} {wi:TI} {g:TG} {tc:TT} {te:TE} {i:Nat} {x:Str} {px:Pos}
theorem eM (hcalm:X.calm=true) (hN:X.N.Nodup) (hix:X.N[i]?=some x) (hx:X.env.scope.names.lookup x=some .local) (hsw:swapsWith (.ListComp elt [⟨target,iter,ifs,0⟩] scope pos) (some (.Name x px)) spos.line X.env=pure true)
 (hi:PI X target iter wi) (hg:∀C s H fp pn,PG (XC X scope NC C s H fp pn) target g) (ht:∀C s H fp pn,PTs (XC X scope NC C s H fp pn) ifs tc) (he:∀C s H fp pn,PE (XC X scope NC C s H fp pn) elt te)
 (hl:mp.length=NC.length:=by rfl) (hm:gM X.N NC mp scope.names X.env.scope.names=true:=by rfl) (hc:bG scope.names X.env.cells=true:=by rfl) (hk:scope.kind= .function:=by rfl)
 (hnc:∀y∈scope.names,y.2≠ .cell:=by decide +kernel) (hnm:∀y∈scope.names,y.2= .local->scope.names.lookup y.1=some .local:=by decide +kernel) (hs:∀x,foldedSetIterable iter X.env x=pure x:=by intro _;rfl):
 PS X (.Assign [.Name x px] (.ListComp elt [⟨target,iter,ifs,0⟩] scope pos) spos) (tAsg (cu mp wi g tc te) (aL i)):=by
 intro pins s σ H Z I h;rw [exec_Assign_Name_used _ _ _ _ hsw];refine wpAny_bind (wpAny_standAt (wpAny_bind ?_));show wpAny _ _ (do let _<-comprehension (.ListComp elt [⟨target,iter,ifs,0⟩] scope pos) scope X.env _ (newList []) false (eval iter X.env) (some (assign (.Name x px) X.env))) _ _ s
 refine wpAny_bind (wpAny_mono (wpAny_comprehension_free (use:=some (assign (.Name x px) X.env)) (Q:=fun _ s'=>SP X pins Z .next s') (E:=X.xe) rfl hs (ge hc) hk hnm
  (thn (hi pins s σ H _ I h) fun v s1 h1=>thn h1 fun itv s2 h2=> ?_)) (fun _ s' q=>wpAny_pure (wpAny_pure q)) fun _ _ e=>e)
 refine hZq fun q_ e_=> ?_;obtain ⟨it,fp,tn,J,H2,e,I2,T,st2,f2,W⟩:=h2;subst e_;subst e;refine wpAny_newObj_type ?_ (by show 0<=sizeLine;decide)
 have nD:H2 s2.heap.objs.size=none:=I2.hok.fresh (yp _)
 have I3:Inv X pins σ (upd H2 s2.heap.objs.size (.lst [])) {s2 with heap:=s2.heap.push {cls:= .type "list",data:= .seq ([]:List Value).toArray}}:=
  I2.laid (t':=s2.toks) (fun b u e=>Heap.get?_push_of_some _ e) (yp _) ⟨by show 0<=sizeLine;decide,[],0, .nil,Heap.get?_push_size _ rfl⟩
 obtain ⟨W,⟨m0,w0⟩,turn⟩:=W _ nD
 have lt2:∀b∈fp,b < s2.heap.objs.size:=fun b hb=>by
  obtain ⟨o,e,_⟩:=T.obj 0 _ st2 b hb;exact Heap.lt_size e
 have nDf:∀b∈fp,b≠s2.heap.objs.size:=fun b hb=>yA (lt2 b hb)
 have f3:∀b∈fp,FpOk X pins (upd H2 s2.heap.objs.size (.lst [])) b:=fun b hb=>by
  obtain ⟨g0,g1⟩:=f2 b hb;exact ⟨by rw [ae (nDf b hb)];exact g0,g1⟩
 have st3:tn 0 (s2.heap.push {cls:= .type "list",data:= .seq ([]:List Value).toArray}):=T.keep 0 _ _ st2 fun b _ o e=>Heap.get?_push_of_some _ e
 have lt3:∀b∈fp,b < (s2.heap.push {cls:= .type "list",data:= .seq ([]:List Value).toArray}).objs.size:=fun b hb=>by
  rw [Heap.size_push];exact zc (lt2 b hb)
 generalize hD:s2.heap.objs.size=D at*;generalize hs3:({s2 with heap:=s2.heap.push {cls:= .type "list",data:= .seq ([]:List Value).toArray}}:Shared)=s3 at*;have hh3:s3.heap=s2.heap.push {cls:= .type "list",data:= .seq ([]:List Value).toArray}:=by rw [<-hs3]
 rw [<-hh3] at st3 lt3;generalize hH3:upd H2 D (.lst [])=H3 at*;refine wpAny_newFunctionEnv (around:=some X.env) hnc (by intro y hy;cases hy) (fun h4 hn4 hsb4=> ?_) hk
 have kp4:∀b o,s3.heap.get? b=some o->h4.get? b=some o:=fun b o e=>hsb4.extBut b o (yA (Heap.lt_size e)) (Heap.get?_push_of_some _ e);have I4:=I3.block (tk:=s3.toks+([]:List (Str×Value)).length) f3 lt3 hk hnc hc hl hm kp4 hn4;have st4:tn 0 h4:=T.keep 0 _ _ st3 fun b _ o e=>kp4 b o e;have nC:∀b o,s3.heap.get? b=some o->b≠s3.heap.objs.size:=fun b o e=>yA (Heap.lt_size e)
 have out:∀(s5:Shared) (σ5:St) (H5:Hp) (h6:Heap),Inv (XC X scope NC s3.heap.objs.size s3 H3 fp (X.pn++pins)) [] σ5 H5 s5->Heap.SameBut s3.heap.objs.size s5.heap h6->Inv X pins σ H5 {s5 with heap:=h6}:=by
  intro s5 σ5 H5 h6 I5 sb6;have kp6:∀b o,b≠s3.heap.objs.size->s5.heap.get? b=some o->h6.get? b=some o:=fun b o hb e=>sb6.extBut b o hb e;have un:Un (frs X.stack) fp H3 H5 s3.heap s5.heap:=I5.base;have hfree:H5 s3.heap.objs.size=none:=I5.free;refine I3.call' (s':= {s5 with heap:=h6}) (ch:=fp) I5.os ⟨fun b o e n hb hx=>kp6 b o (nC b o e) (un.keep b o e n hb hx),fun b o e n hb hx=> ?_,un.free,fun b o e hx=> ?_,un.tups,un.frzs,un.tbls⟩ ?_ I5.bare (fun b hb=> ?_)
  . obtain ⟨sl,e1⟩:=un.slot b o e n hb hx;exact ⟨sl,kp6 b _ (nC b o e) e1⟩
  . obtain ⟨o',e1⟩:=un.there b o e hx;exact ⟨o',kp6 b o' (nC b o e) e1⟩
  . intro b o e;have nb:b≠s3.heap.objs.size:=fun z=>by rw [z,hfree] at e;cases e
    refine (I5.hok b o e).stay (fun c v hc' r=>kp6 c v ?_ r) (fun _ r=>r) fun _ _ r=>r;rcases hc' with z|z
    . rw [z];exact nb
    . intro y;rw [y,hfree] at z;cases z
  . refine hZq fun q_ e_=> ?_;obtain ⟨g0,g1,g2,g3,g4,g5⟩:=f3 b hb;subst e_;exact ⟨g3,g1,g4,g5⟩
 have fin:∀(s5:Shared) (σ5:St) (H5:Hp),Inv (XC X scope NC s3.heap.objs.size s3 H3 fp (X.pn++pins)) [] σ5 H5 s5->Z.nx (σ.set i (some (.ref D))) H5->compPost (model X.prog X.w) X.A X.xe (some (assign (.Name x px) X.env)) (fun _ s'=>SP X pins Z .next s') (.ref D) s3.heap.objs.size (.ok .next) s5:=by
  intro s5 σ5 H5 I5 q5;obtain ⟨m5,hn5,_⟩:=id I5.loc;have I6:=out s5 σ5 H5 s5.heap I5 (.refl ..);have lC:X.env.locals≠s3.heap.objs.size:=yA I3.lt;show wpAny _ _ (assign (.Name x px) X.env (.ref D)) _ _ _;refine wpAny_assign_Name (ic (X:=X) (v:= .ref D) I6 hN hix (.inl hx) rfl (fun s7 I7 hch=> ?_) (.inr hx));obtain ⟨a,sb7,ha⟩:=hch
  have aC:s3.heap.objs.size≠a:=by
   rcases ha with z|z
   . rw [z];exact Ne.symm lC
   . obtain ⟨v,oc,q1,_⟩:=I3.cell x a z;exact Ne.symm (nC a oc q1)
  refine ⟨m5,nX hn5 sb7 aC,fun h8 sb8=>⟨σ.set i (some (.ref D)),H5,?_,q5⟩⟩;have hfree:H5 s3.heap.objs.size=none:=I5.free;have kp8:∀b o,b≠s3.heap.objs.size->s7.heap.get? b=some o->h8.get? b=some o:=fun b o hb e=>sb8.extBut b o hb e;have s0lt:∀b o,X.s₀.heap.get? b=some o->b≠s3.heap.objs.size:=fun b o e=>yA (yL (Heap.lt_size e) I3.sz);refine ⟨I7.ok,I7.os,I7.bare,⟨fun b o e n hb hx=>kp8 b o (s0lt b o e) (I7.base.keep b o e n hb hx),fun b o e n hb hx=> ?_,I7.base.free,fun b o e hx=> ?_,I7.base.tups,I7.base.frzs,I7.base.tbls⟩,?_,fun y c e=> ?_,I7.free,I7.freeC,fun p hp=> ?_,?_,I7.len⟩
  . obtain ⟨sl,e1⟩:=I7.base.slot b o e n hb hx;exact ⟨sl,kp8 b _ (s0lt b o e) e1⟩
  . obtain ⟨o',e1⟩:=I7.base.there b o e hx;exact ⟨o',kp8 b o' (s0lt b o e) e1⟩
  . obtain ⟨m7,hn7,hl7⟩:=I7.loc
    have cellN:∀y c,X.env.cells.lookup y=some c->c≠s3.heap.objs.size:=fun y c e=>by
     obtain ⟨v,oc,q1,_⟩:=I3.cell y c e;exact nC c oc q1
    refine ⟨m7,nX hn7 sb8 lC,fun j y v e1 e2 e3=> ?_⟩;obtain ⟨u,ru,lk⟩:=hl7 j y v e1 e2 e3;refine ⟨u,ru,?_⟩;rcases lk with lk|⟨k1,c,k2,k3⟩
    . exact .inl lk
    . exact .inr ⟨k1,c,k2,k3.sameBut sb8 (cellN y c k2)⟩
  . refine hZq fun q_ e_=> ?_;obtain ⟨w',z⟩:=I7.cell y c e;obtain ⟨v,oc,q1,_⟩:=I3.cell y c e;subst e_;exact ⟨w',z.sameBut sb8 (nC c oc q1)⟩
  . refine hZq fun q_ e_=> ?_;obtain ⟨e,n1,n2,n3,n4⟩:=I7.pin p hp;obtain ⟨e3,_⟩:=I3.pin p hp;subst e_;exact ⟨kp8 _ _ (nC _ _ e3) e,n1,n2,n3,n4⟩
  . intro b o e;have nb:b≠s3.heap.objs.size:=fun z=>by rw [z,hfree] at e;cases e
    refine (I7.hok b o e).stay (fun c v hc' r=>kp8 c v ?_ r) (fun _ r=>r) fun _ _ r=>r;rcases hc' with z|z
    . rw [z];exact nb
    . intro y;rw [y,hfree] at z;cases z
 have loop:codeAny (model X.prog X.w) X.A (.compLoop (.ListComp elt [⟨target,iter,ifs,0⟩] scope pos) 0 (.ref it) (.ref D) (compEnvC scope (cg scope.names X.env.cells []) s3.heap.objs.size X.env)) (compPost (model X.prog X.w) X.A X.xe (some (assign (.Name x px) X.env)) (fun _ s'=>SP X pins Z .next s') (.ref D) s3.heap.objs.size)
  {s3 with heap:=h4,toks:=s3.toks+([]:List (Str×Value)).length}:=by
  refine gT (fun n s'=>∃i acc σ' H',Inv (XC X scope NC s3.heap.objs.size s3 H3 fp (X.pn++pins)) [] σ' H' s'/\Ext (subS mp σ) σ'/\tn i s'.heap/\(∀b∈fp,H' b=none)/\W i n acc H') ?_ m0
   ⟨0,[],subS mp σ,H3,I4,fun _ _ e=>e,st4,fun b hb=>(f3 b hb).1,w0⟩
  intro n s5 z_;refine hZq fun q_ e_=> ?_;obtain ⟨i,acc,σ5,H5,I5,hσ,st5,fr5,w5⟩:=z_;subst e_;have I5':Inv (XC X scope NC s3.heap.objs.size s3 H3 fp (X.pn++pins)) [] (subS mp σ) H5 s5:=I5.weak (by rw [I5.len];unfold subS;rw [yi];exact hl) hσ
  have fpk:∀ {H':Hp},(∀b∈fp,H' b=none)->∀b∈fp,FpOk (XC X scope NC s3.heap.objs.size s3 H3 fp (X.pn++pins)) [] H' b:=fun hn b hb=>by
   refine hZq fun q_ e_=> ?_;obtain ⟨g0,g1,g2,g3,g4,g5⟩:=f3 b hb;subst e_;refine ⟨hn b hb,yA (lt3 b hb),?_, .inl hb,(I4.ok.exf b hb).2,fun p hp=>g5 p (by simpa using hp)⟩
   exact I4.ok.exfs b hb
  rcases turn i n acc H5 w5 with ⟨stop,q⟩|⟨go,step⟩
  . refine thn (T.done (XC X scope NC s3.heap.objs.size s3 H3 fp (X.pn++pins)) rfl rfl rfl hcalm i [] s5 _ H5 (fun _ _=>False) I5' (fpk fr5) st5 stop) fun r s6 ⟨hr,I6⟩=> ?_;subst hr;exact fin s6 _ H5 I6 q
  . refine thn (T.item (XC X scope NC s3.heap.objs.size s3 H3 fp (X.pn++pins)) rfl rfl rfl hcalm i [] s5 _ H5 (fun _ _=>False) I5' (fpk fr5) st5 go) fun r s6 ⟨u,hr,h6⟩=> ?_;subst hr;refine thn h6 fun _ s7 ⟨x,H7,I7,r7,y7,st7,fr7⟩=> ?_;have I7':=I7.pinned (fpk fr7) (T.obj _ _ st7);refine thn (hg _ _ _ _ _ _ s7 _ H7 x u _ I7' r7 (step x H7 y7)) fun _ s8 ⟨σ8,H8,I8,ext8,q8⟩=> ?_;refine thn (ht _ _ _ _ _ _ s8 σ8 H8 _ I8 q8) fun ok s9 ⟨H9,I9,q9⟩=> ?_
    have again:∀ {σ':St} {H':Hp} {s':Shared} {acc':List V} {m':Nat},Inv (XC X scope NC s3.heap.objs.size s3 H3 fp (X.pn++pins)) ([]++dw fp s7.heap) σ' H' s'->Ext (subS mp σ) σ'->m' < n->W (i+1) m' acc' H'->
     ∃m,m < n/\∃i acc σ' H',Inv (XC X scope NC s3.heap.objs.size s3 H3 fp (X.pn++pins)) [] σ' H' s'/\Ext (subS mp σ) σ'/\tn i s'.heap/\(∀b∈fp,H' b=none)/\W i m acc H':=by
     intro σ' H' s' acc' m' I' hσ' hm' w';refine ⟨m',hm',i+1,acc',σ',H',I'.unpinned,hσ',T.keep _ _ _ st7 fun b hb o e=>(I'.pin (b,o) (yB _ (yB _ (aX hb e)))).1,fun b hb=> ?_,w'⟩;obtain ⟨o,e,d⟩:=T.obj _ _ st7 b hb;exact (I'.pin (b,o) (yB _ (yB _ (aX hb e)))).2.1
    cases ok with
    |false=>
     rw [if_neg yE] at q9;rw [if_neg yE];obtain ⟨m',hm',w'⟩:=q9;exact again I9 ext8 hm' w'
    |true=>
     rw [if_pos rfl] at q9;rw [if_pos rfl];refine thn (he _ _ _ _ _ _ s9 σ8 H9 _ I9 q9) fun v s10 ⟨y,H10,I10,r10,hD10,hz,m',hm',w'⟩=> ?_;refine thn (cV (X:=XC X scope NC s3.heap.objs.size s3 H3 fp (X.pn++pins)) _ s10 σ8 H10 (.ref D) [y] (.ref D) [v] (fun _ H'=>H'=upd H10 D (.lst (acc++ [y]))) I10 rfl (.cons r10 .nil) ⟨D,acc,y,rfl,rfl,hD10,hz,rfl⟩) fun _ s11 ⟨_,H11,I11,_,e11⟩=> ?_;subst e11;exact again I11 ext8 hm' w'
 exact codeAny_compStart_list loop (T.self _ 0 _ _ _ st4 loop)
end
open PySem PySem.Spec PyProof.Rows
section
variable {κ:Type} [DecidableEq κ]
noncomputable def valV (kvs:List (κ×V)) (k:κ):Option V:=(kvs.find? fun kv=>decide (kv.1=k)).map (·.2)
noncomputable def putK (kvs:List (κ×V)) (k:κ) (v:V):List (κ×V):=
 if (kvs.any fun kv=>decide (kv.1=k))=true then kvs.map (fun kv=>if kv.1=k then (kv.1,v) else kv) else kvs++ [(k,v)]
theorem bn {p:κ×V} {r:List (κ×V)} {k:κ} (e:p.1=k):valV (p::r) k=some p.2:=by simp [valV,zv,e]
theorem bp {p:κ×V} {r:List (κ×V)} {k:κ} (e:¬p.1=k):valV (p::r) k=valV r k:=by simp [valV,zv,e]
theorem dk (k:κ):∀kvs:List (κ×V),(kvs.any fun kv=>decide (kv.1=k))=(valV kvs k).isSome
 | []=>rfl
 |p::r=>by
  rw [List.any_cons];by_cases e:p.1=k
  . simp only [bn e,decide_eq_true e,Bool.true_or,Option.isSome_some]
  . rw [bp e,decide_eq_false e,Bool.false_or];exact dk k r
theorem jy (k j:κ) (y:V):∀kvs:List (κ×V),valV (kvs.map fun kv=>if kv.1=k then (kv.1,y) else kv) j=(valV kvs j).map fun x=>if j=k then y else x
 | []=>rfl
 |p::r=>by
  have ih:=jy k j y r;rw [yG];by_cases h:p.1=k
  . rw [if_pos h];by_cases e:p.1=j
    . rw [bn (p:=(p.1,y)) e,bn e,Option.map_some,if_pos (e.symm.trans h)]
    . rw [bp (p:=(p.1,y)) e,bp e,ih]
  . rw [if_neg h];by_cases e:p.1=j
    . rw [bn (p:=p) e,bn e,Option.map_some,if_neg (fun z=>h (e.trans z))]
    . rw [bp (p:=p) e,bp e,ih]
theorem i6 (k j:κ) (y:V):∀kvs:List (κ×V),valV kvs k=none->valV (kvs++ [(k,y)]) j=if j=k then some y else valV kvs j
 | [],_=>by
  by_cases e:k=j
  . rw [if_pos e.symm];exact bn (p:=(k,y)) e
  . rw [if_neg (fun z=>e z.symm)];exact bp (p:=(k,y)) e
 |p::r,hn=>by
  rw [z6];have hk:¬p.1=k:=fun z=>by rw [bn z] at hn;cases hn
  rw [bp hk] at hn;have ih:=i6 k j y r hn;by_cases e:p.1=j
  . rw [bn e,bn e,if_neg (fun z=>hk (e.trans z))]
  . rw [bp e,bp e,ih]
theorem oP (kvs:List (κ×V)) (k j:κ) (y:V):valV (putK kvs k y) j=if j=k then some y else valV kvs j:=by
 unfold putK;by_cases a:(kvs.any fun kv=>decide (kv.1=k))=true
 . rw [if_pos a,jy];rw [dk] at a;by_cases e:j=k
   . obtain ⟨x,hx⟩:=Option.isSome_iff_exists.mp a;rw [if_pos e,e,hx,Option.map_some,if_pos rfl]
   . rw [if_neg e]
     cases valV kvs j with
     |none=>rfl
     |some x=>rw [Option.map_some,if_neg e]
 . rw [if_neg a];refine i6 k j y kvs ?_;rw [dk] at a
   cases q:valV kvs k with
   |none=>rfl
   |some x=>rw [q] at a;exact (a rfl).elim
theorem fE (kvs:List (κ×V)) (k:κ) (v:V):(putK kvs k v).length<=kvs.length+1:=by
 unfold putK;split
 . rw [yi];omega
 . rw [yI,yH,List.length_nil];omega
theorem qR {kvs:List (κ×V)} {k:κ} (v:V) (h:valV kvs k=none):putK kvs k v=kvs++ [(k,v)]:=by
 unfold putK;rw [dk,h];exact if_neg (by decide)
theorem RelO.isSome_eq {o:Option V} {u:Option Value} (r:RelO o u):o.isSome=u.isSome:=by
 cases o with
 |none=>cases u with
  |none=>rfl
  |some _=>exact (show False from r).elim
 |some _=>cases u with
  |none=>exact (show False from r).elim
  |some _=>rfl
theorem RelO.getD {o:Option V} {u:Option Value} {d:V} {d':Value} (r:RelO o u) (rd:RelV d d'):RelV (o.getD d) (u.getD d'):=by
 cases o with
 |none=>cases u with
  |none=>exact rd
  |some _=>exact (show False from r).elim
 |some _=>cases u with
  |none=>exact (show False from r).elim
  |some _=>exact r
theorem KV.val {kvs:List (κ×V)} {vs:List (κ×Value)} (r:KV kvs vs) (k:κ):RelO (valV kvs k) (valueAt vs k):=by
 unfold KV at r
 induction r with
 |nil=>exact True.intro
 | @cons p q ps qs h t ih=>
  obtain ⟨h1,h2⟩:=h;by_cases e:p.1=k
  . have e':q.1=k:=h1.symm.trans e;have b:valueAt (q::qs) k=some q.2:=by simp [valueAt,zv,e']
    rw [bn e,b];exact h2
  . have e':¬q.1=k:=fun z=>e (h1.trans z);have b:valueAt (q::qs) k=valueAt qs k:=by simp [valueAt,zv,e']
    rw [bp e,b];exact ih
theorem KV.any {kvs:List (κ×V)} {vs:List (κ×Value)} (r:KV kvs vs) (k:κ):(kvs.any fun kv=>decide (kv.1=k))=vs.any fun kv=>decide (kv.1=k):=by
 unfold KV at r
 induction r with
 |nil=>rfl
 |cons h t ih=>rw [List.any_cons,List.any_cons,ih,h.1]
theorem KV.repl {kvs:List (κ×V)} {vs:List (κ×Value)} (r:KV kvs vs) (k:κ) {y:V} {u:Value} (ry:RelV y u):
 KV (kvs.map fun kv=>if kv.1=k then (kv.1,y) else kv) (vs.map fun kv=>if kv.1=k then (kv.1,u) else kv):=by
 unfold KV at r ⊢
 induction r with
 |nil=>exact .nil
 | @cons p q ps qs h t ih=>
  rw [yG,yG];refine .cons ?_ ih;obtain ⟨h1,h2⟩:=h;by_cases e:p.1=k
  . rw [if_pos e,if_pos (h1.symm.trans e)];exact ⟨h1,ry⟩
  . rw [if_neg e,if_neg (fun z=>e (h1.trans z))];exact ⟨h1,h2⟩
theorem KV.put {kvs:List (κ×V)} {vs:List (κ×Value)} (r:KV kvs vs) (k:κ) {y:V} {u:Value} (ry:RelV y u):KV (putK kvs k y) (stored vs k u):=by
 unfold putK stored;rw [r.any k];by_cases e:(vs.any fun kv=>decide (kv.1=k))=true
 . rw [if_pos e,if_pos e];exact r.repl k ry
 . rw [if_neg e,if_neg e];exact Paired.snoc r ⟨rfl,ry⟩
theorem KV.length {kvs:List (κ×V)} {vs:List (κ×Value)} (r:KV kvs vs):kvs.length=vs.length:=Paired.length r
end
theorem mU {P:Program} {w:World} {k:Key} {u:Value} (r:RelV (kV k) u):(aJ P w).is k u=true:=by
 cases k with
 |inl i=>obtain ⟨t,e⟩:=(show∃t,u=Value.int i t from r);subst e;exact jO P w i t
 |inr x=>obtain ⟨t,e⟩:=(show∃t,u=Value.str x t from r);subst e;exact jN P w x t
theorem ip {P:Program} {w:World}:∀ {ks:List Key} {us:List Value},Vals (ks.map kV) us->ItemsAre (aJ P w) ks us
 | [],_,r=>by rw [zH] at r;cases r;exact .nil
 |k::ks,_,r=>by
  rw [yG] at r
  cases r with
  |cons h t=>exact .cons (mU h) (ip t)
abbrev KT (H:Hp):List (List Key×V)->List (List Key×Addr×Value)->Prop:=Paired fun p q=>p.1=q.1/\H q.2.1=some (.tup (p.1.map kV))/\RelV p.2 q.2.2
theorem KT.val {H:Hp} {kvs:List (List Key×V)} {xs:List (List Key×Addr×Value)} (r:KT H kvs xs) (k:List Key):RelO (valV kvs k) ((atKey xs k).map (·.2)):=by
 induction r with
 |nil=>exact True.intro
 | @cons p q ps qs h t ih=>
  obtain ⟨h1,_,h2⟩:=h;by_cases e:p.1=k
  . have e':q.1=k:=h1.symm.trans e;have b:atKey (q::qs) k=some q.2:=by simp [atKey,zv,e']
    rw [bn e,b];exact h2
  . have e':¬q.1=k:=fun z=>e (h1.trans z);have b:atKey (q::qs) k=atKey qs k:=by simp [atKey,zv,e']
    rw [bp e,b];exact ih
theorem KT.keeps {H H':Hp} {kvs:List (List Key×V)} {xs:List (List Key×Addr×Value)} (r:KT H kvs xs) (ht:∀b ys,H b=some (.tup ys)->H' b=some (.tup ys)):KT H' kvs xs:=
 Paired.mapP r fun _ _ z=>⟨z.1,ht _ _ z.2.1,z.2.2⟩
section
variable {P:Program} {w:World} {H:Hp} {h:Heap} {a:Addr}
theorem vf {u:HO} (ok:HOk P w H h) (e:Rd H a u):ObjOk P w H h a u:=e.ok ok
theorem sI {kvs:List (Key×V)} (ok:HOk P w H h) (e:Rd H a (.dK kvs)):kvs.length<=sizeLine/\(a==sysModules)=false/\∃vs,KV kvs vs/\h.DictOf (aJ P w) a vs:=
 show ObjOk P w H h a (.dK kvs) from vf ok e
theorem nF {kvs:List (Key×V)} (ok:HOk P w H h) (e:H a=some (.dK kvs)):kvs.length<=sizeLine/\(a==sysModules)=false/\∃vs,KV kvs vs/\h.DictOf (aJ P w) a vs:=sI ok (.inl e)
theorem rT {ks:List Key} (ok:HOk P w H h) (e:H a=some (.tup (ks.map kV))):(tupleKind (aJ P w)).is h ks a:=by
 obtain ⟨_,its,r,o,h1,h2,n,h3⟩:=(show ObjOk P w H h a (.tup (ks.map kV)) from ok a _ e);exact ⟨o,its.toArray,n,h1,h2,h3,by simpa using ip r⟩
theorem vm {kvs:List (List Key×V)} (ok:HOk P w H h) (e:Rd H a (.dT kvs)):kvs.length<=sizeLine/\(a==sysModules)=false/\
 ∃xs,KT H kvs xs/\h.DictOfH (tupleKind (aJ P w)) a xs:=by
 obtain ⟨z,y,xs,r,o,es,ep,h1,h2,h3,h4,h5⟩:=(show ObjOk P w H h a (.dT kvs) from vf ok e);refine ⟨z,y,xs,r,o,es,ep,h1,h2,h3,h4,fun x hx=> ?_,h5⟩
 have all:∀ {l:List (List Key×V)} {m:List (List Key×Addr×Value)},KT H l m->∀x∈m,(tupleKind (aJ P w)).is h x.1 x.2.1:=by
  intro l m q
  induction q with
  |nil=>intro x hx;exact nomatch hx
  | @cons p q ps qs hq t ih=>
   intro x hx;rcases yx.mp hx with e|hx
   . subst e;exact rT ok (by rw [<-hq.1];exact hq.2.1)
   . exact ih x hx
 exact all r x hx
end
def DGet (H:Hp) (a:Addr) (y:V) (r:Option V):Prop:=
 (∃kvs k,Rd H a (.dK kvs)/\y=kV k/\r=valV kvs k)\/∃kvs k b,Rd H a (.dT kvs)/\y= .ref b/\H b=some (.tup (k.map kV))/\r=valV kvs k
def DPut (H:Hp) (a:Addr) (y v:V) (H':Hp):Prop:=
 (∃kvs k,H a=some (.dK kvs)/\y=kV k/\kvs.length < sizeLine/\H'=upd H a (.dK (putK kvs k v)))\/
 ∃kvs k b,H a=some (.dT kvs)/\y= .ref b/\H b=some (.tup (k.map kV))/\kvs.length < sizeLine/\H'=upd H a (.dT (putK kvs k v))
theorem DGet.k {H:Hp} {a:Addr} {kvs:List (Key×V)} {k:Key} (e:H a=some (.dK kvs)):DGet H a (kV k) (valV kvs k):= .inl ⟨kvs,k, .inl e,rfl,rfl⟩
theorem DGet.t {H:Hp} {a b:Addr} {kvs:List (List Key×V)} {k:List Key} (e:H a=some (.dT kvs)) (eb:H b=some (.tup (k.map kV))):DGet H a (.ref b) (valV kvs k):= .inr ⟨kvs,k,b, .inl e,rfl,eb,rfl⟩
theorem DPut.k {H:Hp} {a:Addr} {kvs:List (Key×V)} {k:Key} {v:V} (e:H a=some (.dK kvs)) (hl:kvs.length < sizeLine):DPut H a (kV k) v (upd H a (.dK (putK kvs k v))):= .inl ⟨kvs,k,e,rfl,hl,rfl⟩
theorem DPut.t {H:Hp} {a b:Addr} {kvs:List (List Key×V)} {k:List Key} {v:V} (e:H a=some (.dT kvs)) (eb:H b=some (.tup (k.map kV))) (hl:kvs.length < sizeLine):
 DPut H a (.ref b) v (upd H a (.dT (putK kvs k v))):= .inr ⟨kvs,k,b,e,rfl,eb,hl,rfl⟩
section
variable {X:Cx} {pins:List (Addr×Obj)} {σ:St} {H:Hp} {s:Shared} {a:Addr} {y v:V} {u r:Value} {o:Option V} {A:Around} {E:Value->Shared->Prop}
theorem Inv.big (I:Inv X pins σ H s):sysModules < s.heap.objs.size:=by
 have h:mainGlobals < s.heap.objs.size:=(I.mod.glob.keeps I.bk).lt;exact Nat.lt_trans (by decide) h
theorem ga {h':Heap} {t':Nat} {ob:HO} (I:Inv X pins σ H s) (mu:Mut (H a)) (hs:Heap.SameBut a s.heap h') (he:∃q,h'.get? a=some q) (new:ObjOk X.prog X.w (upd H a ob) h' a ob):
 Inv X pins σ (upd H a ob) {s with heap:=h',toks:=t'}:=
 I.write (x:=a) (e:=a) mu (.inl rfl) (fun b q hb z=>(hs.2 b hb).trans z) he new
theorem sJ {P:Program} {w:World} {H':Hp} {h':Heap} {kvs:List (Key×V)} {vs:List (Key×Value)} (z:kvs.length<=sizeLine) (hd:(a==sysModules)=false) (rel:KV kvs vs) (dd:h'.DictOf (aJ P w) a vs):
 ObjOk P w H' h' a (.dK kvs):=⟨z,hd,vs,rel,dd⟩
end
section
variable {X:Cx} {pins:List (Addr×Obj)} {σ:St} {H:Hp} {s:Shared} {a:Addr} {kvs:List (Key×V)} {k:Key} {u:Value} {A:Around} {E:Value->Shared->Prop}
end
section
variable {X:Cx} {o i e value:Expr} {pos pos' tpos:Pos} {td ty tv:TE}
end
theorem k7 {P:Program} {w:World} {H:Hp} (h:Heap) (hb:sysModules < h.objs.size):ObjOk P w H (h.push {cls:= .type "dict",data:= .dict #[]}) h.objs.size (.dK []):=
 ⟨yJ _,beq_eq_false_iff_ne.mpr (Ne.symm (yA hb)),[], .nil,Heap.DictOf.new h⟩
def vF:TE:=fun _ H Q=>∀p,H p=none->Q (.ref p) (upd H p (.dK []))
section
variable {X:Cx} {pos:Pos}
theorem r6:PE X (.Dict [] [] pos) vF:=fun pins s σ H Q I h=>
 wpAny_Dict_empty ⟨.ref s.heap.objs.size,_,I.laid (a:=s.heap.objs.size) (o:= .dK []) (t':=s.toks) (fun _ _ q=>Heap.get?_push_of_some _ q) (yp _) (k7 s.heap I.big),rfl,h _ (I.hok.fresh (yp _))⟩
end
structure M1 (X:Cx) (o:Expr) (m:Str) (apos:Pos) (e:Expr) (cpos:Pos):Prop where
 base:attributeBase o m X.env (eval o X.env)=eval o X.env
 few:((backTo cpos (starEach [e] X.env)).all (fun x=> !x.1)&& (backToKw cpos (keywordEach [] X.env)).all (fun x=>x.1.isSome)
  &&decide (([e]:List Expr).length+([]:List Keyword).length+(if ([]:List Keyword).isEmpty then 0 else 1) < 30))=true
 line:(apos.endLine==cpos.line)=true
 trees:backTo cpos (starEach [e] X.env)= [(false,eval e X.env)]
structure M2 (X:Cx) (o:Expr) (m:Str) (apos:Pos) (e f:Expr) (cpos:Pos):Prop where
 base:attributeBase o m X.env (eval o X.env)=eval o X.env
 few:((backTo cpos (starEach [e,f] X.env)).all (fun x=> !x.1)&& (backToKw cpos (keywordEach [] X.env)).all (fun x=>x.1.isSome)
  &&decide (([e,f]:List Expr).length+([]:List Keyword).length+(if ([]:List Keyword).isEmpty then 0 else 1) < 30))=true
 line:(apos.endLine==cpos.line)=true
 trees:backTo cpos (starEach [e,f] X.env)= [(false,eval e X.env),(false,eval f X.env)]
def IsD (H:Hp) (a:Addr):Prop:=(∃kvs,Rd H a (.dK kvs))\/∃kvs,Rd H a (.dT kvs)
theorem wQ {X:Cx} {pins:List (Addr×Obj)} {σ:St} {H:Hp} {s:Shared} {a:Addr} (I:Inv X pins σ H s) (d:IsD H a):
 s.TypeIs (.ref a) "dict"/\(∀b,Value.ref a= .ref b->∃ob,s.heap.get? b=some ob/\ob.dict=none)/\(a==sysModules)=false:=by
 rcases d with ⟨kvs,e⟩|⟨kvs,e⟩
 . obtain ⟨_,hd,vs,_,dd⟩:=sI I.hok e;refine ⟨dd.typeIs,fun b q=> ?_,hd⟩;cases q;obtain ⟨ob,_,_,h1,h2,_⟩:=dd;exact ⟨ob,h1,h2.2.1⟩
 . obtain ⟨_,hd,xs,_,dd⟩:=vm I.hok e;refine ⟨dd.typeIs,fun b q=> ?_,hd⟩;cases q;obtain ⟨ob,_,_,h1,h2,_⟩:=dd;exact ⟨ob,h1,h2.2.1⟩
section
variable {X:Cx} {pins:List (Addr×Obj)} {σ:St} {H:Hp} {s:Shared} {a:Addr} {y d:V} {u r:Value} {o:Option V} {A:Around} {E:Value->Shared->Prop}
theorem x9 {Q:Value->Shared->Prop} (hu:A.units+1 < cLine) (I:Inv X pins σ H s) (g:DGet H a y o) (ry:RelV y u) (rd:RelV d r) (h:∀w' s',Inv X pins σ H s'->RelV (o.getD d) w'->Q w' s'):
 wpAny (model X.prog X.w) A (call (.builtin "dict.get") [.ref a,u,r]) Q E s:=by
 rcases g with ⟨kvs,k,e,ey,l⟩|⟨kvs,k,b,e,ey,eb,l⟩
 . subst ey;obtain ⟨z,hd,vs,rel,dd⟩:=sI I.hok e;refine call_meetsIn PySem.F.slot_dict_get dd.typeIs PySem.F.entry_dict_get (PySem.F.args_dict_get_3 _ _ _) (meets_dict_get_default (aJ X.prog X.w) a (mU ry) hd r) ⟨_,dd.mapOf,h _ _ (I.tok _) ?_⟩;rw [l];exact (rel.val k).getD rd
 . subst ey;cases (show u=Value.ref b from ry);obtain ⟨z,hd,xs,rel,dd⟩:=vm I.hok e;refine call_meetsIn PySem.F.slot_dict_get dd.typeIs PySem.F.entry_dict_get (PySem.F.args_dict_get_3 _ _ _) (meetsH_dict_get_default (tupleKind (aJ X.prog X.w)) a b hd r) ⟨tupleKind_room_in1 hu,k,xs,rT I.hok eb,dd,h _ _ (I.tok _) ?_⟩;rw [l];exact (rel.val k).getD rd
end
def vG (td ty tx:TE):TE:=fun σ H Q=>td σ H fun x H1=>∃a,x= .ref a/\IsD H1 a/\ty σ H1 fun y H2=>tx σ H2 fun z H3=>∃o,DGet H3 a y o/\Q (o.getD z) H3
section
variable {X:Cx} {o e f:Expr} {apos cpos:Pos} {td ty tx:TE}
theorem rg (hu:X.A.units+1 < cLine) (ho:PE X o td) (he:PE X e ty) (hf:PE X f tx) (m:M2 X o "get" apos e f cpos):PE X (.Call (.Attribute o "get" apos) [e,f] [] cpos) (vG td ty tx):=by
 intro pins s σ H Q I h;refine wpAny_Call_method m.base m.few m.line PySem.F.plainAttrs_dict PySem.F.slot_dict_get PySem.F.type_dict_get (thn (ho pins s σ H _ I h) fun u s1 ⟨x,H1,I1,rx,a,ex,d,q1⟩=> ?_);subst ex;obtain rfl:u=Value.ref a:=rx;obtain ⟨t1,t2,_⟩:=wQ I1 d;refine ⟨t1,t2,?_⟩;rw [m.trees]
 refine Calls.callWith_builtin rfl (Calls.evalArgs_plain (Calls.spliced_cons (thn (he pins s1 σ H1 _ I1 q1) fun iv s2 ⟨y,H2,I2,ry,q2⟩=>
  Calls.spliced_cons (thn (hf pins s2 σ H2 _ I2 q2) fun fv s3 ⟨z,H3,I3,rz,ov,g,q3⟩=>Calls.spliced_nil ?_))))
 exact x9 hu I3 g ry rz fun w' s4 I4 rw'=>⟨_,H3,I4,rw',q3⟩
end
section
variable {X:Cx} {pins:List (Addr×Obj)} {σ:St} {H:Hp} {s:Shared} {a:Addr} {kvs:List (Key×V)} {A:Around} {E:Value->Shared->Prop}
end
section
variable {X:Cx} {pins:List (Addr×Obj)} {σ:St} {H:Hp} {s:Shared} {a:Addr} {y:V} {u:Value} {A:Around} {E:Value->Shared->Prop}
end
open PySem PySem.Spec PyProof.Rows
def kq (J:It) (D:Addr) (te:TE) (rest:L2.St) (Q:VK) (H1:Hp):Prop:=
 ∃W:Nat->Nat->List V->Hp->Prop,(∃m,W 0 m [] (upd H1 D (.lst [])))/\∀i m acc H2,W i m acc H2->
  (J.stop i H2/\Q (.ref D) H2)\/
  (J.go i H2/\∀x H3,J.yld i H2 x H3->aL 0 x (none::rest) H3 fun σ4 H4=>Ext (none::rest) σ4/\cZ σ4 H4 fun b H5=>if b=true then te σ4 H5 fun v H6=>H6 D=some (.lst acc)/\acc.length < sizeLine/\∃m',m' < m/\W (i+1) m' (acc++ [v]) (upd H6 D (.lst (acc++ [v])))
   else∃m',m' < m/\W (i+1) m' acc H5)
theorem bV {mp:List (Option Nat)} {wi:TI} {te:TE} {σ rest:L2.St} {H:Hp} {Q:VK} (e:subS mp σ=none::rest) (h:wi σ H fun J H1=>∀D,H1 D=none->kq J D te rest Q H1):cu mp wi (aL 0) cZ te σ H Q:=by
 unfold cu;rw [e];exact h
def CompN (n i:Nat) (D:Addr) (acc:List V) (Pv:Nat->List V->Hp->Prop):VK:=fun v H6=>H6 D=some (.lst acc)/\acc.length < sizeLine/\∃m',m' < n - i/\(m'=n - (i+1)/\i+1<=n/\Pv (i+1) (acc++ [v]) (upd H6 D (.lst (acc++ [v]))))
theorem CompN.mk {n i:Nat} {D:Addr} {acc:List V} {Pv:Nat->List V->Hp->Prop} {v:V} {H6:Hp} (hi:i < n) (hl:acc.length < sizeLine) (h1:H6 D=some (.lst acc)) (h2:Pv (i+1) (acc++ [v]) (upd H6 D (.lst (acc++ [v])))):CompN n i D acc Pv v H6:=
 ⟨h1,hl,n - (i+1),by omega,rfl,hi,h2⟩
theorem jo {J:It} {D:Addr} {te:TE} {rest:L2.St} {Q:VK} {H1:Hp} (n:Nat) (Pv:Nat->List V->Hp->Prop) (h0:Pv 0 [] (upd H1 D (.lst [])))
 (hgo:∀i acc H,i < n->Pv i acc H->J.go i H)
 (hs:∀i x acc H H',i < n->Pv i acc H->J.yld i H x H'->te (some x::rest) H' (CompN n i D acc Pv))
 (hd:∀acc H,Pv n acc H->J.stop n H/\Q (.ref D) H):kq J D te rest Q H1:=by
 refine ⟨fun i m acc H=>m=n - i/\i<=n/\Pv i acc H,⟨n,by simp,yJ _,h0⟩,?_⟩
 rintro i m acc H ⟨rfl,hi,p⟩;by_cases hlt:i < n
 . refine .inr ⟨hgo i acc H hlt p,fun x H' y=> ?_⟩;refine ⟨ext1,?_⟩;show (if true=true then te (some x::rest) H' (CompN n i D acc Pv) else∃m',m' < n - i/\(m'=n - (i+1)/\i+1<=n/\Pv (i+1) acc H'));exact iteT (hs i x acc H H' hlt p y)
 . have e:i=n:=by omega
   subst e;exact .inl (hd acc H p)
theorem sU {K:PySem.W.Frag} {a D:Addr} {xs:List V} {te:TE} {rest:L2.St} {Q:VK} {H1:Hp} (Pv:Nat->List V->Hp->Prop) (h0:Pv 0 [] (upd H1 D (.lst [])))
 (hl:∀i acc H,Pv i acc H->SqT K H a xs)
 (hs:∀i x acc H,i < xs.length->xs[i]?=some x->Pv i acc H->te (some x::rest) H (CompN xs.length i D acc Pv))
 (hd:∀acc H,Pv xs.length acc H->Q (.ref D) H):kq (Itt K a) D te rest Q H1:=by
 refine jo xs.length Pv h0 (fun i acc H hi p=>⟨xs,xs[i],hl i acc H p,by simp [hi]⟩) (fun i x acc H H' hi p y=> ?_) fun acc H p=>⟨⟨xs,hl _ acc H p,yp _⟩,hd acc H p⟩
 obtain ⟨e,y⟩:=y;subst e;exact hs i x acc _ hi (y xs (hl i acc _ p)) p
theorem bU {K:PySem.W.Frag} {a D:Addr} {xs:List V} {te:TE} {rest:L2.St} {Q:VK} {H1:Hp} (Pv:Nat->List V->Hp->Prop) (h0:Pv 0 [] (upd H1 D (.lst [])))
 (hl:∀i acc H,Pv i acc H->SqL K H a xs)
 (hs:∀i x acc H,i < xs.length->xs[i]?=some x->Pv i acc H->te (some x::rest) H (CompN xs.length i D acc Pv))
 (hd:∀acc H,Pv xs.length acc H->Q (.ref D) H):kq (Itl K a) D te rest Q H1:=by
 refine jo xs.length Pv h0 (fun i acc H hi p=>⟨xs,xs[i],hl i acc H p,by simp [hi]⟩) (fun i x acc H H' hi p y=> ?_) fun acc H p=>⟨⟨xs,hl _ acc H p,yp _⟩,hd acc H p⟩
 obtain ⟨e,y⟩:=y;subst e;exact hs i x acc _ hi (y xs (hl i acc _ p)) p
theorem gU {n:Nat} {D:Addr} {te:TE} {rest:L2.St} {Q:VK} {H1:Hp} (Pv:Nat->List V->Hp->Prop) (h0:Pv 0 [] (upd H1 D (.lst [])))
 (hs:∀(i:Nat) acc H,i < n->Pv i acc H->te (some (.int (0+(i:Int)))::rest) H (CompN n i D acc Pv))
 (hd:∀acc H,Pv n acc H->Q (.ref D) H):kq (Itr 0 n) D te rest Q H1:=by
 refine jo n Pv h0 (fun i acc H hi p=>hi) (fun i x acc H H' hi p y=> ?_) fun acc H p=>⟨yp _,hd acc H p⟩;obtain ⟨e,y⟩:=y;subst e y;exact hs i acc _ hi p
end L2
namespace Dj
open PySem PySem.Spec PyProof.Rows L2 Tre
def SqX (K:PySem.W.Frag) (H:Hp) (a:Addr) (xs:List V):Prop:=
 H a=some (.tup xs)\/∃(o:Obj) (its:Array Value) (n:Nat),K.lookup a=some o/\o.cls= .type "tuple"/\o.data= .seq its n/\its.size<=sizeLine/\Vals xs its.toList
theorem SqX.sq {K:PySem.W.Frag} {H:Hp} {a:Addr} {xs:List V} (h:SqX K H a xs):SqT K H a xs:=h.elim (fun e=> .inl (.inl e)) .inr
theorem SqX.mono {K:PySem.W.Frag} {H H':Hp} {a:Addr} {xs:List V} (d:Kd H H') (h:SqX K H a xs):SqX K H' a xs:=h.elim (fun e=> .inl (d.tup _ _ e)) .inr
mutual
def KVt (K:PySem.W.Frag) (H:Hp):V->Tk.KT->Prop
 |v, .lf (.inl i)=>v= .int i
 |v, .lf (.inr x)=>v= .str x
 |v, .tp ts=>∃r vs,v= .ref r/\SqX K H r vs/\KVts K H vs ts
def KVts (K:PySem.W.Frag) (H:Hp):List V->List Tk.KT->Prop
 |vs,[]=>vs= []
 |vs,t::ts=>∃v r,vs=v::r/\KVt K H v t/\KVts K H r ts
end
section
variable {P:Program} {w:World} {K:PySem.W.Frag} {H H':Hp} {h:Heap}
mutual
theorem KVt.mono (d:Kd H H'):∀ {v:V} {t:Tk.KT},KVt K H v t->KVt K H' v t
 |v, .lf (.inl i),a=>by unfold KVt at a ⊢;exact a
 |v, .lf (.inr x),a=>by unfold KVt at a ⊢;exact a
 |v, .tp ts,a=>by
  unfold KVt at a ⊢;obtain ⟨r,vs,e,s,q⟩:=a;exact ⟨r,vs,e,s.mono d,KVts.mono d q⟩
theorem KVts.mono (d:Kd H H'):∀ {vs:List V} {ts:List Tk.KT},KVts K H vs ts->KVts K H' vs ts
 |vs,[],a=>by unfold KVts at a ⊢;exact a
 |vs,t::ts,a=>by
  unfold KVts at a ⊢;obtain ⟨v,r,e,a1,a2⟩:=a;exact ⟨v,r,e,KVt.mono d a1,KVts.mono d a2⟩
end
theorem vI (ok:HOk P w H h) (kin:K.In h) {q:Addr} {vs:List V} (e:SqX K H q vs):∃its:List Value,Vals vs its/\∃o n,h.get? q=some o/\o.cls= .type "tuple"/\o.data= .seq its.toArray n:=by
 rcases e with e|⟨o,its,n,hk,hc,hs,hz,r⟩
 . obtain ⟨_,its,rv,o,h1,h2,n,h3⟩:=(show ObjOk P w H h q (.tup vs) from ok q _ e);exact ⟨its,rv,o,n,h1,h2,h3⟩
 . exact ⟨its.toList,r,o,n,kin q o hk,hc,by simpa using hs⟩
mutual
theorem rV (ok:HOk P w H h) (kin:K.In h):∀ {v:V} {t:Tk.KT} {u:Value},KVt K H v t->RelV v u->Tk.KAt h u t
 |v, .lf (.inl i),u,a,r=>by
  unfold KVt at a;subst a;obtain ⟨t,rfl⟩:=r;simp only [Tk.KAt];exact im i t
 |v, .lf (.inr x),u,a,r=>by
  unfold KVt at a;subst a;obtain ⟨t,rfl⟩:=r;simp only [Tk.KAt];exact ik x t
 |v, .tp ts,u,a,r=>by
  unfold KVt at a;obtain ⟨q,vs,rfl,e,as⟩:=a;obtain rfl:u=Value.ref q:=r;obtain ⟨its,rv,o,n,h1,h2,h3⟩:=vI ok kin e;simp only [Tk.KAt];exact ⟨q,o,its.toArray,n,rfl,h1,h2,h3,by simpa using kats_of ok kin as rv⟩
theorem kats_of (ok:HOk P w H h) (kin:K.In h):∀ {vs:List V} {ts:List Tk.KT} {us:List Value},KVts K H vs ts->Vals vs us->Tk.KsAt h us ts
 |vs,[],us,a,r=>by
  unfold KVts at a;subst a;cases r;simp [Tk.KsAt]
 |vs,t::ts,us,a,r=>by
  unfold KVts at a;obtain ⟨v,q,rfl,a1,a2⟩:=a
  cases r with
  |cons r1 r2=>
   simp only [Tk.KsAt];exact ⟨_,_,rfl,rV ok kin a1 r1,kats_of ok kin a2 r2⟩
end
end
def KeyAt (K:PySem.W.Frag) (H:Hp) (k:List Tk.KT) (b:Addr):Prop:=∃vs,SqX K H b vs/\KVts K H vs k/\(Tk.KT.tp k).depth<=8
theorem KeyAt.mono {K:PySem.W.Frag} {H H':Hp} {k:List Tk.KT} {b:Addr} (d:Kd H H') (h:KeyAt K H k b):KeyAt K H' k b:=by
 obtain ⟨ts,h1,h2,h3⟩:=h;exact ⟨ts,h1.mono d,h2.mono d,h3⟩
theorem KeyAt.is {P:Program} {w:World} {K:PySem.W.Frag} {H:Hp} {h:Heap} {k:List Tk.KT} {b:Addr} (ok:HOk P w H h) (kin:K.In h) (x:KeyAt K H k b):(Tk.treeKind P w).is h k b:=by
 obtain ⟨vs,h1,h2,h4⟩:=x;have:=rV ok kin (v:= .ref b) (t:= .tp k) (u:= .ref b) (by unfold KVt;exact ⟨b,vs,rfl,h1,h2⟩) rfl
 exact ⟨this,h4⟩
abbrev Ent:=List Tk.KT×Addr×V
abbrev RE:List Ent->List (List Tk.KT×Addr×Value)->Prop:=Paired fun p q=>p.1=q.1/\p.2.1=q.2.1/\RelV p.2.2 q.2.2
noncomputable def dJ (P:Program) (w:World) (a:Addr) (kvs:List Ent):HO:= .ext fun h=>kvs.length<=sizeLine/\(a==sysModules)=false/\
 ∃xs:List (List Tk.KT×Addr×Value),RE kvs xs/\∃o es ep,h.get? a=some o/\o.ExactDict/\o.data= .dict es ep/\es.toList=xs.map (entryOfKey (Tk.treeKind P w))/\(xs.map (·.1)).Nodup
structure DJ (P:Program) (w:World) (K:PySem.W.Frag) (H:Hp) (a:Addr) (kvs:List Ent):Prop where
 at_:H a=some (dJ P w a kvs)
 keys:∀p∈kvs,KeyAt K H p.1 p.2.1
noncomputable def valJ (kvs:List Ent) (k:List Tk.KT):Option V:=(kvs.find? fun p=>decide (p.1=k)).map (·.2.2)
noncomputable def putJ (kvs:List Ent) (k:List Tk.KT) (b:Addr) (v:V):List Ent:=
 if (valJ kvs k).isSome then kvs.map (fun p=>if p.1=k then (p.1,p.2.1,v) else p) else kvs++ [(k,b,v)]
theorem gh {p:Ent} {r:List Ent} {k:List Tk.KT} (e:p.1=k):valJ (p::r) k=some p.2.2:=by simp [valJ,zv,e]
theorem dm {p:Ent} {r:List Ent} {k:List Tk.KT} (e:¬p.1=k):valJ (p::r) k=valJ r k:=by simp [valJ,zv,e]
theorem fG (kvs:List Ent) (k:List Tk.KT) (b:Addr) (v:V):(putJ kvs k b v).length<=kvs.length+1:=by
 unfold putJ;split
 . rw [yi];omega
 . rw [yI,yH,List.length_nil];omega
theorem RE.val {kvs:List Ent} {xs:List (List Tk.KT×Addr×Value)} (r:RE kvs xs) (k:List Tk.KT):RelO (valJ kvs k) ((atKey xs k).map (·.2)):=by
 induction r with
 |nil=>exact True.intro
 | @cons p q ps qs h t ih=>
  obtain ⟨h1,_,h2⟩:=h;by_cases e:p.1=k
  . have e':q.1=k:=h1.symm.trans e;have b:atKey (q::qs) k=some q.2:=by simp [atKey,zv,e']
    rw [gh e,b];exact h2
  . have e':¬q.1=k:=fun z=>e (h1.trans z);have b:atKey (q::qs) k=atKey qs k:=by simp [atKey,zv,e']
    rw [dm e,b];exact ih
theorem RE.repl {kvs:List Ent} {xs:List (List Tk.KT×Addr×Value)} (r:RE kvs xs) (k:List Tk.KT) {y:V} {u:Value} (ry:RelV y u):
 RE (kvs.map fun p=>if p.1=k then (p.1,p.2.1,y) else p) (xs.map (putAt k u)):=by
 induction r with
 |nil=>exact .nil
 | @cons p q ps qs h t ih=>
  rw [yG,yG];refine .cons ?_ ih;obtain ⟨h1,h2,h3⟩:=h;unfold putAt;by_cases e:p.1=k
  . rw [if_pos e,if_pos (h1.symm.trans e)];exact ⟨h1,h2,ry⟩
  . rw [if_neg e,if_neg (fun z=>e (h1.trans z))];exact ⟨h1,h2,h3⟩
theorem RE.put {kvs:List Ent} {xs:List (List Tk.KT×Addr×Value)} (r:RE kvs xs) (k:List Tk.KT) {b:Addr} {y:V} {u:Value} (ry:RelV y u):RE (putJ kvs k b y) (storedH xs k b u):=by
 have e:(valJ kvs k).isSome=(atKey xs k).isSome:=by
  rw [(r.val k).isSome_eq,Option.isSome_map]
 unfold putJ storedH;rw [e];by_cases q:(atKey xs k).isSome=true
 . rw [if_pos q,if_pos q];exact r.repl k ry
 . rw [if_neg q,if_neg q];exact Paired.snoc r ⟨rfl,rfl,ry⟩
theorem qT {kvs:List Ent} {k:List Tk.KT} {b:Addr} {v:V} {p:Ent} (h:p∈putJ kvs k b v):(∃q∈kvs,p.1=q.1/\p.2.1=q.2.1)\/(p.1=k/\p.2.1=b):=by
 unfold putJ at h;split at h
 . obtain ⟨q,m,e⟩:=yR.mp h;split at e
   . subst e;exact .inl ⟨q,m,rfl,rfl⟩
   . subst e;exact .inl ⟨q,m,rfl,rfl⟩
 . rcases yN.mp h with m|m
   . exact .inl ⟨p,m,rfl,rfl⟩
   . rw [yD.mp m];exact .inr ⟨rfl,rfl⟩
theorem Kd.updJ {P:Program} {w:World} {H:Hp} {a:Addr} {kvs:List Ent} {o:HO} (h:H a=some (dJ P w a kvs)):Kd H (upd H a o):=by
 refine ⟨fun b zs e=> ?_,fun b zs e=>⟨zs,?_⟩⟩
 . rw [ae (fun z=>by rw [z,h] at e;cases e)];exact e
 . rw [ae (fun z=>by rw [z,h] at e;cases e)];exact e
theorem Kd.updK {H:Hp} {a:Addr} {kvs:List (Key×V)} {o:HO} (h:H a=some (.dK kvs)):Kd H (upd H a o):=by
 refine ⟨fun b zs e=> ?_,fun b zs e=>⟨zs,?_⟩⟩
 . rw [ae (fun z=>by rw [z,h] at e;cases e)];exact e
 . rw [ae (fun z=>by rw [z,h] at e;cases e)];exact e
theorem DJ.put {P:Program} {w:World} {K:PySem.W.Frag} {H:Hp} {a b:Addr} {kvs:List Ent} {k:List Tk.KT} {v:V} (d:DJ P w K H a kvs) (hk:KeyAt K H k b):DJ P w K (upd H a (dJ P w a (putJ kvs k b v))) a (putJ kvs k b v):=by
 refine ⟨a8,fun p m=> ?_⟩;refine KeyAt.mono (Kd.updJ d.at_) ?_;rcases qT m with ⟨q,mq,e1,e2⟩|⟨e1,e2⟩
 . rw [e1,e2];exact d.keys q mq
 . rw [e1,e2];exact hk
theorem DJ.kd {P:Program} {w:World} {K:PySem.W.Frag} {H H':Hp} {a:Addr} {kvs:List Ent} (d:DJ P w K H a kvs) (k:Kd H H') (e:H' a=some (dJ P w a kvs)):DJ P w K H' a kvs:=⟨e,fun p m=>(d.keys p m).mono k⟩
section
variable {P:Program} {w:World} {H:Hp} {h:Heap} {a:Addr}
theorem fP {K:PySem.W.Frag} {kvs:List Ent} (ok:HOk P w H h) (kin:K.In h) (d:DJ P w K H a kvs):kvs.length<=sizeLine/\(a==sysModules)=false/\∃xs,RE kvs xs/\h.DictOfH (Tk.treeKind P w) a xs:=by
 obtain ⟨⟨z,y,xs,r,o,es,ep,h1,h2,h3,h4,h5⟩,_⟩:=(show ObjOk P w H h a (dJ P w a kvs) from ok a _ d.at_);refine ⟨z,y,xs,r,o,es,ep,h1,h2,h3,h4,?_,h5⟩
 have all:∀ {l:List Ent} {m:List (List Tk.KT×Addr×Value)},RE l m->(∀p∈l,KeyAt K H p.1 p.2.1)->∀x∈m,(Tk.treeKind P w).is h x.1 x.2.1:=by
  intro l m q
  induction q with
  |nil=>intro _ x hx;exact nomatch hx
  | @cons p q ps qs hq t ih=>
   intro kp x hx;rcases yx.mp hx with e|hx
   . subst e;rw [<-hq.1,<-hq.2.1];exact (kp p yn).is ok kin
   . exact ih (fun p m=>kp p (ym _ m)) x hx
 exact all r d.keys
theorem lF {kvs:List Ent} {xs:List (List Tk.KT×Addr×Value)} {H':Hp} {h':Heap} (z:kvs.length<=sizeLine) (y:(a==sysModules)=false) (r:RE kvs xs)
 (d:∃o es ep,h'.get? a=some o/\o.ExactDict/\o.data= .dict es ep/\es.toList=xs.map (entryOfKey (Tk.treeKind P w))/\(xs.map (·.1)).Nodup):ObjOk P w H' h' a (dJ P w a kvs):=by
 obtain ⟨o,es,ep,h1,h2⟩:=d;refine ⟨⟨z,y,xs,r,o,es,ep,h1,h2⟩,⟨o,h1⟩,?_⟩;rintro g1 g2 ⟨z,y,xs,r,o,es,ep,h1,h2⟩ st;exact ⟨z,y,xs,r,o,es,ep,st _ h1,h2⟩
end
noncomputable def pC (P:Program) (w:World):TE:=fun _ H Q=>∀p,H p=none->Q (.ref p) (upd H p (dJ P w p []))
noncomputable def qB (P:Program) (w:World) (K:PySem.W.Frag) (td ty tv:TE):TS:=fun D σ H=>tv σ H fun v H1=>td σ H1 fun x H2=>ty σ H2 fun y H3=>∃a b k kvs,x= .ref a/\y= .ref b/\DJ P w K H3 a kvs/\KeyAt K H3 k b/\kvs.length < sizeLine/\D.nx σ (upd H3 a (dJ P w a (putJ kvs k b v)))
noncomputable def pD (P:Program) (w:World) (K:PySem.W.Frag) (td ty tx:TE):TE:=fun σ H Q=>td σ H fun x H1=>∃a kvs,x= .ref a/\DJ P w K H1 a kvs/\ty σ H1 fun y H2=>tx σ H2 fun z H3=>∃b k,y= .ref b/\DJ P w K H3 a kvs/\KeyAt K H3 k b/\Q ((valJ kvs k).getD z) H3
section
variable {X:Cx} {pos pos' apos cpos:Pos} {o i e f value:Expr} {td ty tv tx:TE}
theorem k8 {P:Program} {w:World} {H:Hp} (h:Heap) (hb:sysModules < h.objs.size):ObjOk P w H (h.push {cls:= .type "dict",data:= .dict #[]}) h.objs.size (dJ P w h.objs.size []):=
 lF (yJ _) (beq_eq_false_iff_ne.mpr (Ne.symm (yA hb))) .nil ⟨_, #[],0,Heap.get?_push_size _ rfl,⟨rfl,rfl,rfl⟩,rfl,rfl,List.nodup_nil⟩
theorem r8:PE X (.Dict [] [] pos) (pC X.prog X.w):=fun pins s σ H Q I h=>
 wpAny_Dict_empty ⟨.ref s.heap.objs.size,_,I.laid (a:=s.heap.objs.size) (o:=dJ X.prog X.w s.heap.objs.size []) (t':=s.toks) (fun _ _ q=>Heap.get?_push_of_some _ q) (yp _) (k8 s.heap I.big),rfl,h _ (I.hok.fresh (yp _))⟩
theorem qX (hu:X.A.units+30 < cLine) (ho:PE X o td) (hi:PE X i ty) (hv:PE X value tv) (hs:swapsWith value (some (.Subscript o i pos')) pos.line X.env=pure false):
 PS X (.Assign [.Subscript o i pos'] value pos) (qB X.prog X.w X.K td ty tv):=by
 intro pins s σ H D I h;refine wpAny_Assign_Subscript (thn (hv pins s σ H _ I h) fun r s1 ⟨v,H1,I1,rv,q1⟩=>thn (ho pins s1 σ H1 _ I1 q1) fun u s2 ⟨x,H2,I2,rx,q2⟩=>thn (hi pins s2 σ H2 _ I2 q2) fun iv s3 ⟨y,H3,I3,ry,a,b,k,kvs,ex,ey,d,kb,hl,q3⟩=> ?_) hs;subst ex ey;obtain rfl:u=Value.ref a:=rx;obtain rfl:iv=Value.ref b:=ry;obtain ⟨z,hd,xs,rel,dd⟩:=fP I3.hok I3.kIn d;have hz:xs.length<=sizeLine:=by rw [<-Paired.length rel];exact z
 have hl2:(putJ kvs k b v).length<=sizeLine:=by have:=fG kvs k b v;omega
 refine wpAny_setItem_heap (hsz:=hz) (by show X.A.units+1+20 < cLine;omega) (kb.is I3.hok I3.kIn) dd fun h' dd' hs=>⟨σ,_,?_,q3⟩
 obtain ⟨q,es,ep,hq,h2,h3,h4,_,h5⟩:=dd';exact ga I3 (by rw [d.at_];exact True.intro) hs ⟨q,hq⟩ (lF hl2 hd (rel.put k rv) ⟨q,es,ep,hq,h2,h3,h4,h5⟩)
theorem rc (hu:X.A.units+30 < cLine) (ho:PE X o td) (he:PE X e ty) (hf:PE X f tx) (m:M2 X o "get" apos e f cpos):PE X (.Call (.Attribute o "get" apos) [e,f] [] cpos) (pD X.prog X.w X.K td ty tx):=by
 intro pins s σ H Q I h;refine wpAny_Call_method m.base m.few m.line PySem.F.plainAttrs_dict PySem.F.slot_dict_get PySem.F.type_dict_get (thn (ho pins s σ H _ I h) fun u s1 ⟨x,H1,I1,rx,a,kvs,ex,d,q1⟩=> ?_);subst ex;obtain rfl:u=Value.ref a:=rx
 have ty0:s1.TypeIs (.ref a) "dict"/\∀b,Value.ref a= .ref b->∃ob,s1.heap.get? b=some ob/\ob.dict=none:=by
  refine hZq fun q_ e_=> ?_;obtain ⟨_,_,xs,_,dd⟩:=fP I1.hok I1.kIn d;subst e_;refine ⟨dd.typeIs,fun b q=> ?_⟩;cases q;refine hZq fun q_ e_=> ?_;obtain ⟨ob,_,_,h1,h2,_⟩:=dd;subst e_;exact ⟨ob,h1,h2.2.1⟩
 refine ⟨ty0.1,ty0.2,?_⟩;rw [m.trees]
 refine Calls.callWith_builtin rfl (Calls.evalArgs_plain (Calls.spliced_cons (thn (he pins s1 σ H1 _ I1 q1) fun iv s2 ⟨y,H2,I2,ry,q2⟩=>
  Calls.spliced_cons (thn (hf pins s2 σ H2 _ I2 q2) fun fv s3 ⟨z,H3,I3,rz,b,k,ey,d3,kb,q3⟩=>Calls.spliced_nil ?_))))
 subst ey;obtain rfl:iv=Value.ref b:=ry;refine hZq fun q_ e_=> ?_;obtain ⟨_,hd,xs,rel,dd⟩:=fP I3.hok I3.kIn d3;subst e_;exact call_meetsIn PySem.F.slot_dict_get dd.typeIs PySem.F.entry_dict_get (PySem.F.args_dict_get_3 _ _ _) (meetsH_dict_get_default (Tk.treeKind X.prog X.w) a b hd fv) ⟨by show X.A.units+1+20 < cLine;omega,k,xs,kb.is I3.hok I3.kIn,dd,⟨_,H3,I3.tok _,(rel.val k).getD rz,q3⟩⟩
variable {P:Program} {w:World} {K:PySem.W.Frag}
theorem pe_newJ (hP:X.prog=P) (hw:X.w=w):PE X (.Dict [] [] pos) (pC P w):=by
 subst hP hw;exact r8
theorem ps_putJ (hP:X.prog=P) (hw:X.w=w) (hK:X.K=K) (hu:X.A.units+30 < cLine) (ho:PE X o td) (hi:PE X i ty) (hv:PE X value tv) (hs:swapsWith value (some (.Subscript o i pos')) pos.line X.env=pure false):
 PS X (.Assign [.Subscript o i pos'] value pos) (qB P w K td ty tv):=by
 subst hP hw hK;exact qX hu ho hi hv hs
theorem pe_getJ (hP:X.prog=P) (hw:X.w=w) (hK:X.K=K) (hu:X.A.units+30 < cLine) (ho:PE X o td) (he:PE X e ty) (hf:PE X f tx) (m:M2 X o "get" apos e f cpos):PE X (.Call (.Attribute o "get" apos) [e,f] [] cpos) (pD P w K td ty tx):=by
 subst hP hw hK;exact rc hu ho he hf m
end
end Dj
namespace Tre
open PySem L2
theorem gx {x y:Str} (h:x.cps.toList=y.cps.toList):x=y:=by
 cases x;cases y;simp only [Str.mk.injEq];exact Array.toList_inj.mp h
theorem eQ {ts us:List Tr} (h:∀t∈ts,∀u∈us,code t=code u->t=u) (e:codes ts=codes us):ts=us:=by
 induction ts generalizing us with
 |nil=>cases us with
  |nil=>rfl
  |cons u us=>simp [codes] at e
 |cons t ts ih=>
  cases us with
  |nil=>simp [codes] at e
  |cons u us=>
   simp only [codes,zJ] at e;rw [h t yn u yn e.1,ih (fun a ma b mb=>h a (ym _ ma) b (ym _ mb)) e.2]
theorem nl {x y:String} (h:(Str.ofString x).cps.toList≠(Str.ofString y).cps.toList) {r s:List Co}:Co.tup (.str (Str.ofString x).cps.toList::r)=Co.tup (.str (Str.ofString y).cps.toList::s)->False:=fun e=>by
 simp only [Co.tup.injEq,zJ,Co.str.injEq] at e;exact h e.1
theorem xi:∀(n:Nat) {k:So} {t u:Tr},t.depth<=n->Ty k t->Ty k u->code t=code u->t=u:=by
 intro n
 induction n with
 |zero=>
  intro k t u hd h1 h2;cases h1<;>simp [Tr.depth] at hd
 |succ n ih=>
  intro k t u hd h1 h2 e
  have sub:∀ {ts:List Tr} {t:Tr},(Tr.tup ts).depth<=n+1->t∈ts->t.depth<=n:=fun h m=>by
   unfold Tr.depth at h;have:=bg m;omega
  have sub2:∀ {ts l:List Tr} {t:Tr},(Tr.tup ts).depth<=n+1->Tr.tup l∈ts->t∈l->t.depth<=n:=fun h m m2=>by
   have h3:=sub h m;unfold Tr.depth at h3;have:=bg m2;omega
  cases h1<;>cases h2<;>simp only [code,codes] at e
  all_goals first
   |exact (nl (by decide +kernel) e).elim
   |skip
  all_goals simp only [Co.tup.injEq,zJ,Co.str.injEq,Co.num.injEq,and_true,true_and] at e
  . rw [gx e]
  . rename_i x ts _ h1 y us _ h2;rw [gx e.1,eQ (fun a ma b mb=>ih (sub2 hd (by simp) ma) (h1 a ma) (h2 b mb)) e.2]
  . rw [e.1,e.2]
  . rename_i t1 f1 a1 b1 t2 f2 a2 b2;rw [ih (sub hd (by simp)) a1 a2 e.1,ih (sub hd (by simp)) b1 b2 e.2]
  . rw [gx e]
  . rename_i p1 f1 a1 b1 p2 f2 a2 b2;rw [eQ (fun a ma b mb=>ih (sub2 hd (by simp) ma) (a1 a ma) (a2 b mb)) e.1,ih (sub hd (by simp)) b1 b2 e.2]
  . rename_i t1 u1 a1 b1 t2 u2 a2 b2;rw [ih (sub hd (by simp)) a1 a2 e.1,ih (sub hd (by simp)) b1 b2 e.2]
  . rename_i w1 a1 w2 a2;rw [ih (sub hd (by simp)) a1 a2 e]
  . rename_i l1 a1 l2 a2;rw [eQ (fun a ma b mb=>ih (sub2 hd (by simp) ma) (a1 a ma) (a2 b mb)) e]
  . rename_i l1 a1 l2 a2;rw [eQ (fun a ma b mb=>ih (sub2 hd (by simp) ma) (a1 a ma) (a2 b mb)) e]
  . rename_i w1 b1 a1 w2 b2 a2
    have e2:b1=b2:=by
     have:=e.2;cases b1<;>cases b2<;>simp at this ⊢
    rw [ih (sub hd (by simp)) a1 a2 e.1,e2]
end Tre
namespace Wd
open PySem L2 Tre Mth Dj
def Lt2 (e:Nat) (x:Int):Prop:=x.natAbs < 2^e
theorem Lt2.mono {m n:Nat} {x:Int} (h:Lt2 m x) (hn:m<=n):Lt2 n x:=yL h (Nat.pow_le_pow_right (by decide) hn)
theorem Lt2.big {n:Nat} {x:Int} (h:Lt2 n x) (hn:n<=8000):Big x:=h.mono hn
theorem Lt2.div {e:Nat} {x y:Int} (h:Lt2 e x):Lt2 e (x / y):=yM (cA x y) h
theorem Lt2.mul {m n:Nat} {x y:Int} (h1:Lt2 m x) (h2:Lt2 n y):Lt2 (m+n) (x*y):=by
 unfold Lt2 at*;rw [yT,Nat.pow_add];exact Nat.mul_lt_mul'' h1 h2
theorem Lt2.add {m:Nat} {x y:Int} (h1:Lt2 m x) (h2:Lt2 m y):Lt2 (m+1) (x+y):=by
 unfold Lt2 at*;have:=Int.natAbs_add_le x y;rw [Nat.pow_succ];omega
abbrev Fr:=Int×Int
noncomputable def frT (p:Fr):Tr:= .tup [.int p.1, .int p.2]
noncomputable def frK (p:Fr):Tk.KT:= .tp [.lf (.inl p.1), .lf (.inl p.2)]
structure Gf (e:Nat) (p:Fr):Prop where
 pos:0 < p.2
 top:Lt2 e p.1
 bot:Lt2 e p.2
noncomputable def zero:Fr:=(0,1)
def Gv (p:Fr):Prop:=Gf 200 p/\iD p.1 p.2
theorem uD:Gf 200 zero:=⟨by decide,by show (0:Nat) < 2^200;exact Nat.pow_pos (by decide),by show (1:Nat) < 2^200;decide +kernel⟩
theorem nu:Gv zero:=⟨uD,by decide,by decide⟩
noncomputable def gj (p q:Fr):Fr:=(tX p.1 p.2 q.1 q.2,tY p.1 p.2 q.1 q.2)
structure Wld where
 fl:Str->Bool
 va:Str->Fr
 ca:List Tk.KT->Fr
structure Wld.Ok (W:Wld):Prop where
 va:∀x,Gv (W.va x)
 ca:∀k,Gv (W.ca k)
mutual
noncomputable def valT (W:Wld):Tr->Fr
 | .tup (_:: .str x::r)=>match r with
  | []=>W.va x
  |t::_=>W.ca [.lf (.inr x), .tp (keyT W t)]
 |_=>zero
noncomputable def keyT (W:Wld):Tr->List Tk.KT
 | .tup ts=>valsT W ts
 |_=> []
noncomputable def valsT (W:Wld):List Tr->List Tk.KT
 | []=> []
 |t::ts=>frK (valT W t)::valsT W ts
end
def Gp (p:Tr):Prop:=∃tm f,p= .tup [tm,frT f]/\Ty .tm tm/\tm.depth<=5/\Gf 603 f
inductive Gw:Tr->Prop
 |fl (x:Str):Gw (.tup [s_ "flag", .str x])
 |mo (ps:List Tr) (f:Fr):ps.length<=3->(∀p∈ps,Gp p)->Gf 900 f->Gw (.tup [s_ "most", .tup ps,frT f])
 |li (t u:Tr):Ty .tm t->Ty .tm u->t.depth<=7->u.depth<=7->Gw (.tup [s_ "like",t,u])
 |no (w:Tr):Gw w->Gw (.tup [s_ "not",w])
 |bo (l:List Tr):l.length<=3->(∀w∈l,Gw w)->Gw (.tup [s_ "both", .tup l])
 |ei (l:List Tr):l.length<=3->(∀w∈l,Gw w)->Gw (.tup [s_ "either", .tup l])
theorem Gw.ty {t:Tr} (h:Gw t):Ty .ws t:=by
 induction h with
 |fl x=>exact .fl x
 |mo ps f _ hp _=>
  refine .mo ps _ (fun p m=> ?_) (.fr _ _);obtain ⟨tm,f,rfl,h1,_⟩:=hp p m;exact .pr _ _ h1 (.fr _ _)
 |li t u h1 h2 _ _=>exact .li t u h1 h2
 |no w _ ih=>exact .no w ih
 |bo l _ _ ih=>exact .bo l ih
 |ei l _ _ ih=>exact .ei l ih
inductive Gl:Tr->Prop
 |mk (t:Tr) (b:Bool):Gw t->Gl (.tup [t, .bl b])
theorem Gl.ty {t:Tr} (h:Gl t):Ty .lt t:=by
 cases h with
 |mk t b h=>exact .lt t b h.ty
end Wd
namespace Su
open PySem L2 Tre Mth Wd
noncomputable def rv (p:Fr):Rat:=(p.1:Rat) / (p.2:Rat)
abbrev Sh (p:Fr):Prop:=iD p.1 p.2
theorem ne0 {b:Int} (h:0 < b):(b:Rat)≠0:=by
 simp only [ne_eq,Rat.intCast_eq_zero_iff];omega
theorem vd {p q:Fr} (h1:0 < p.2) (h2:0 < q.2):rv p=rv q↔p.1*q.2=q.1*p.2:=by
 have a:=ne0 h1;have b:=ne0 h2;unfold rv;constructor
 . intro h;have:(p.1:Rat)*q.2=q.1*p.2:=by grind
   exact_mod_cast this
 . intro h;have:(p.1:Rat)*q.2=q.1*p.2:=by exact_mod_cast h
   grind
theorem qE {p q:Fr} (h1:Sh p) (h2:Sh q) (e:rv p=rv q):p=q:=by
 rw [vd h1.1 h2.1] at e;obtain ⟨a,b⟩:=p;obtain ⟨c,d⟩:=q;obtain ⟨b0,g1⟩:=h1;obtain ⟨d0,g2⟩:=h2;dsimp only at*;have n1:a.natAbs*d.natAbs=c.natAbs*b.natAbs:=by rw [<-yT,<-yT,e]
 have g1':Nat.Coprime b.natAbs a.natAbs:=by rw [Nat.coprime_comm];exact g1
 have g2':Nat.Coprime d.natAbs c.natAbs:=by rw [Nat.coprime_comm];exact g2
 have d1:b.natAbs∣d.natAbs:=g1'.dvd_of_dvd_mul_left ⟨c.natAbs,by rw [n1,Nat.mul_comm]⟩
 have d2:d.natAbs∣b.natAbs:=g2'.dvd_of_dvd_mul_left ⟨a.natAbs,by rw [<-n1,Nat.mul_comm]⟩
 have e1:=Nat.dvd_antisymm d1 d2;have e2:b=d:=by omega
 subst e2;have e3:a=c:=Int.eq_of_mul_eq_mul_right (by omega) e
 rw [e3]
theorem jE {p q:Fr} (h1:Sh p) (h2:Sh q):rv (gj p q)=rv p*rv q:=by
 obtain ⟨s,e⟩:=pf h1 h2;have a:=ne0 h1.1;have b:=ne0 h2.1;have c:=ne0 s.1;have e':((tX p.1 p.2 q.1 q.2:Int):Rat)*(p.2*q.2)=p.1*q.1*(tY p.1 p.2 q.1 q.2:Int):=by exact_mod_cast e
 unfold rv gj;dsimp only;grind
theorem tT:Sh zero:=⟨by decide,by decide⟩
theorem rv_zero:rv zero=0:=by
 show ((0:Int):Rat) / ((1:Int):Rat)=0;have:((0:Int):Rat)=0:=by simp
 rw [this];grind
theorem vc {p:Fr} (h:Sh p):rv p=0↔p=zero:=by
 constructor
 . intro e;exact qE h tT (e.trans rv_zero.symm)
 . rintro rfl;exact rv_zero
noncomputable def low (t b:Int):Fr:=(t / (Int.gcd t b:Int),b / (Int.gcd t b:Int))
theorem vJ {t b:Int} (h:0 < b):Sh (low t b):=by
 obtain ⟨x',y',ex,ey,g1,qx,qy⟩:=cN (x:=t) (y:=b) (by omega)
 unfold low;rw [qx,qy];have y0:0 < y':=de (k:=(Int.gcd t b:Int)) (by omega) (by omega)
 exact ⟨y0,g1⟩
theorem vL {t b:Int} (h:0 < b):rv (low t b)=(t:Rat) / (b:Rat):=by
 have s:=vJ (t:=t) h;obtain ⟨x',y',ex,ey,g1,qx,qy⟩:=cN (x:=t) (y:=b) (by omega)
 have g0:0 < Int.gcd t b:=yU t (by omega)
 unfold low at s ⊢;rw [qx,qy] at s ⊢
 have e:x'*b=t*y':=by
  generalize ((Int.gcd t b:Nat):Int)=g at*;rw [ex,ey];simp only [zt,Int.mul_left_comm,zy]
 exact (vd (p:=(x',y')) (q:=(t,b)) s.1 h).mpr e
abbrev Pq:=Tr×Fr
noncomputable def prT (p:Pq):Tr:= .tup [p.1,frT p.2]
open Classical in
noncomputable def tot (t:Tr):List Pq->Rat
 | []=>0
 |p::r=>(if p.1=t then rv p.2 else 0)+tot t r
theorem dP (t:Tr) (a b:List Pq):tot t (a++b)=tot t a+tot t b:=by
 induction a with
 |nil=>simp only [List.nil_append,tot];grind
 |cons p r ih=>simp only [z6,tot,ih];grind
open Classical in
theorem tJ (t:Tr) (p:Pq):tot t [p]=if p.1=t then rv p.2 else 0:=by
 simp only [tot];grind
theorem oV {t:Tr} {a b:List Pq} (h:a.Perm b):tot t a=tot t b:=by
 induction h with
 |nil=>rfl
 |cons x _ ih=>simp only [tot,ih]
 |swap x y l=>simp only [tot];grind
 |trans _ _ h1 h2=>rw [h1,h2]
theorem dq {t:Tr}:∀ {l:List Pq},(∀p∈l,p.1≠t)->tot t l=0
 | [],_=>rfl
 |p::r,h=>by
  simp only [tot];rw [if_neg (h p yn),dq fun q m=>h q (ym _ m)];grind
abbrev Asc (us:List Pq):Prop:=us.Pairwise fun a b=>ltT a.1 b.1=true
theorem wE (t:Tr):ltT t t=false:=by
 cases e:ltT t t with
 |false=>rfl
 |true=>exact (dz e).symm.trans e |>.symm
theorem jP {t u:Tr} (h:ltT t u=true):t≠u:=fun z=>by
 rw [z,wE] at h;cases h
theorem jv {us:List Pq} (h:Asc us) {p:Pq} (m:p∈us):tot p.1 us=rv p.2:=by
 induction us with
 |nil=>cases m
 |cons q r ih=>
  obtain ⟨h1,h2⟩:=List.pairwise_cons.mp h;simp only [tot];rcases yx.mp m with e|m
  . subst e;rw [if_pos rfl,dq fun x mx=>(jP (h1 x mx)).symm];grind
  . rw [if_neg (jP (h1 p m)),ih h2 m];grind
structure Can (ps us:List Pq):Prop where
 asc:Asc us
 sh:∀p∈us,Sh p.2/\p.2≠zero
 eq:∀t,tot t us=tot t ps
theorem Can.mem {ps us vs:List Pq} (h1:Can ps us) (h2:Can ps vs) {p:Pq} (m:p∈us):p∈vs:=by
 have e1:=jv h1.asc m;rw [h1.eq,<-h2.eq] at e1;have n0:rv p.2≠0:=fun z=>(h1.sh p m).2 ((vc (h1.sh p m).1).mp z);refine Classical.byContradiction fun no=> ?_;by_cases q:∀x∈vs,x.1≠p.1
 . rw [dq q] at e1;exact n0 e1.symm
 . obtain ⟨x,hx⟩:=Classical.not_forall.mp q;obtain ⟨mx,ex⟩:=Classical.not_imp.mp hx;have ex:=Classical.not_not.mp ex;have e2:=jv h2.asc mx;rw [ex,e1] at e2;have e3:=qE (h1.sh p m).1 (h2.sh x mx).1 e2;have:x=p:=Prod.ext ex e3.symm;rw [this] at mx;exact no mx
theorem Can.to {ps qs us:List Pq} (h:Can ps us) (e:∀t,tot t ps=tot t qs):Can qs us:=⟨h.asc,h.sh,fun t=>(h.eq t).trans (e t)⟩
structure Run (ds us:List Pq):Prop where
 asc:Asc us
 sh:∀p∈us,Sh p.2
 eq:∀t,tot t us=tot t ds
 key:∀p∈us,∃d∈ds,d.1=p.1
theorem Run.nil:Run [] []:=⟨.nil,(fun p m=>by cases m),fun t=>rfl,fun p m=>by cases m⟩
theorem kA (t:Tr) {us:List Pq} (h:∀p∈us,Sh p.2):tot t (us.filter fun p=>decide (p.2≠zero))=tot t us:=by
 induction us with
 |nil=>rfl
 |cons p r ih=>
  have ih:=ih fun q m=>h q (ym _ m);rw [List.filter_cons];by_cases z:p.2=zero
  . have e:decide (p.2≠zero)=false:=by simp [z]
    rw [e,if_neg (by decide),ih]
    simp only [tot,z,rv_zero];grind
  . have e:decide (p.2≠zero)=true:=by simp [z]
    rw [e,if_pos rfl];simp only [tot,ih]
theorem Run.fin {ps us:List Pq} (h:Run ps us):Can ps (us.filter fun p=>decide (p.2≠zero)):=by
 refine ⟨h.asc.filter _,fun p m=> ?_,fun t=>(kA t h.sh).trans (h.eq t)⟩;obtain ⟨m1,m2⟩:=za.mp m;exact ⟨h.sh p m1,by simpa using m2⟩
theorem uu {p q:Pq} (h:ltT p.1 q.1=true):ltT (prT p) (prT q)=true:=by
 rw [ltT_iff] at h ⊢;show LtC (.tup (code p.1::_)) (.tup (code q.1::_));simp only [LtC,LtCs];exact .inl h
theorem ux {p q:Pq} (h:ltT (prT q) (prT p)=false):ltT q.1 p.1=false:=by
 cases e:ltT q.1 p.1 with
 |false=>rfl
 |true=>rw [uu e] at h;cases h
theorem vh {t u:Tr} (h1:ltT u t=false) (h2:eqT t u=false):ltT t u=true:=by
 cases e:ltT t u with
 |true=>rfl
 |false=>rw [wF e h1] at h2;cases h2
theorem uS {t u:Tr} (h1:Ty .tm t) (h2:Ty .tm u) (h:eqT t u=true):t=u:=xi t.depth (yp _) h1 h2 ((dE t u).mp h)
end Su
namespace L2
open PySem PySem.Spec PyProof.Rows
def jw (J:It) (D:Addr) (tc:TT) (te:TE) (rest:L2.St) (Q:VK) (H1:Hp):Prop:=
 ∃W:Nat->Nat->List V->Hp->Prop,(∃m,W 0 m [] (upd H1 D (.lst [])))/\∀i m acc H2,W i m acc H2->
  (J.stop i H2/\Q (.ref D) H2)\/
  (J.go i H2/\∀x H3,J.yld i H2 x H3->aL 0 x (none::rest) H3 fun σ4 H4=>Ext (none::rest) σ4/\tc σ4 H4 fun b H5=>if b=true then te σ4 H5 fun v H6=>H6 D=some (.lst acc)/\acc.length < sizeLine/\∃m',m' < m/\W (i+1) m' (acc++ [v]) (upd H6 D (.lst (acc++ [v])))
   else∃m',m' < m/\W (i+1) m' acc H5)
theorem cR {mp:List (Option Nat)} {wi:TI} {tc:TT} {te:TE} {σ rest:L2.St} {H:Hp} {Q:VK} (e:subS mp σ=none::rest) (h:wi σ H fun J H1=>∀D,H1 D=none->jw J D tc te rest Q H1):cu mp wi (aL 0) tc te σ H Q:=by
 unfold cu;rw [e];exact h
def CompS (n i:Nat) (acc:List V) (Pv:Nat->List V->Hp->Prop):Hp->Prop:=fun H5=>∃m',m' < n - i/\(m'=n - (i+1)/\i+1<=n/\Pv (i+1) acc H5)
theorem CompS.mk {n i:Nat} {acc:List V} {Pv:Nat->List V->Hp->Prop} {H5:Hp} (hi:i < n) (h:Pv (i+1) acc H5):CompS n i acc Pv H5:=⟨n - (i+1),by omega,rfl,hi,h⟩
theorem e9 {K:PySem.W.Frag} {a D:Addr} {xs:List V} {tc:TT} {te:TE} {rest:L2.St} {Q:VK} {H1:Hp} (Pv:Nat->List V->Hp->Prop) (h0:Pv 0 [] (upd H1 D (.lst [])))
 (hl:∀i acc H,Pv i acc H->SqL K H a xs)
 (hs:∀i x acc H,i < xs.length->xs[i]?=some x->Pv i acc H->tc (some x::rest) H fun b H5=>if b=true then te (some x::rest) H5 (CompN xs.length i D acc Pv) else CompS xs.length i acc Pv H5)
 (hd:∀acc H,Pv xs.length acc H->Q (.ref D) H):jw (Itl K a) D tc te rest Q H1:=by
 refine ⟨fun i m acc H=>m=xs.length - i/\i<=xs.length/\Pv i acc H,⟨xs.length,by simp,yJ _,h0⟩,?_⟩
 rintro i m acc H ⟨rfl,hi,p⟩;by_cases hlt:i < xs.length
 . refine .inr ⟨⟨xs,xs[i],hl i acc H p,by simp [hlt]⟩,fun x H' y=>⟨ext1,?_⟩⟩
   obtain ⟨e,y⟩:=y;subst e;exact hs i x acc _ hlt (y xs (hl i acc _ p)) p
 . have e:i=xs.length:=by omega
   subst e;exact .inl ⟨⟨xs,hl _ acc H p,yp _⟩,hd acc H p⟩
end L2
namespace Zp
open PySem
inductive Src where
 |lst|tup
def Src.It (k:Src) (h:Heap) (it l:Addr) (i:Nat):Prop:=match k with
 | .lst=>h.IsListIter it l i
 | .tup=>h.IsTupleIter it l i
def Src.Sq (k:Src) (h:Heap) (l:Addr) (xs:Array Value):Prop:=match k with
 | .lst=>h.IsList l xs
 | .tup=>h.IsTuple l xs
theorem dA {k:Src} {h h':Heap} {a l:Addr} {i:Nat} (x:k.It h a l i) (e:∀o,h.get? a=some o->h'.get? a=some o):k.It h' a l i:=by
 cases k
 . exact Heap.IsListIter.at x e
 . exact Heap.IsTupleIter.at x e
theorem pJ {k:Src} {h h':Heap} {l:Addr} {xs:Array Value} (x:k.Sq h l xs) (e:∀o,h.get? l=some o->h'.get? l=some o):k.Sq h' l xs:=by
 cases k
 . exact Heap.IsList.at x e
 . exact Heap.IsTuple.at x e
theorem jf {k:Src} {h:Heap} {a l:Addr} {i:Nat} (x:k.It h a l i):∃o,h.get? a=some o/\∀v,o.data≠ .cell v:=by
 cases k
 all_goals
  obtain ⟨o,e,_,d⟩:=x;exact ⟨o,e,fun v z=>by rw [d] at z;cases z⟩
section
variable {prog:Program} {w:World} {A:Around} {E:Value->Shared->Prop} {s:Shared} {k:Src} {it l:Addr} {i:Nat} {xs:Array Value} {x:Value} {Q:Value->Shared->Prop}
theorem mE (st:k.It s.heap it l i) (sq:k.Sq s.heap l xs) (hx:xs[i]?=some x) (q:∀h',k.It h' it l (i+1)->Heap.SameBut it s.heap h'->Q x {s with heap:=h'}):
 wpAny (model prog w) A (Builtin.SmallTypes.nextOf (.ref it)) Q E s:=by
 cases k
 . exact wpAny_nextOf_list_item st sq hx q
 . obtain ⟨o,e1,e2,e3⟩:=id st;obtain ⟨p,f1,_,n,f3⟩:=sq;have ty:=Heap.IsTupleIter.typeIs st;rw [Builtin.SmallTypes.nextOf];refine wpAny_bind (wpAny_callSpecial?_slot (name:=Str.ofString "__next__") ty F.slot_tuple_iterator_next (wpAny_call_entry F.slot_tuple_iterator_next ty F.entry_tuple_iterator_next ?_ (F.args_tuple_iterator_next_1 _)));show wpAny _ _ (do let y<-field (.ref it) 0;_) _ _ s
   refine wpAny_bind (wpAny_field e1 e3 (x:= .ref l) rfl ?_);show wpAny _ _ (if (Value.ref l==Value.none)=true then _ else _) _ _ _;refine (if_neg (show¬((Value.ref l==Value.none)=true) from yE))▸ ?_;show wpAny _ _ (do let y<-field (.ref it) 1;_) _ _ s
   refine wpAny_bind (wpAny_field e1 e3 (x:= .int i 0) rfl ?_);show wpAny _ _ (do let y<-seqItems? (.ref l);_) _ _ s
   refine wpAny_bind (wpAny_seqItems f1 f3 ?_);simp only [hx,zp];refine wpAny_bind (wpAny_setField e1 e3 (by simp) (wpAny_pure ⟨x,rfl,wpAny_pure (q _ ?_ (Heap.SameBut.update ..))⟩))
   refine ⟨_,Heap.get?_update_self _ e1 (Obj.isFreed_of_fields (Obj.data_mapFields e3 _)),(Obj.cls_mapFields ..).trans e2,?_⟩;rw [Obj.data_mapFields e3];simp [rawInt]
theorem wD (hh:A.handled=none) (st:k.It s.heap it l i) (sq:k.Sq s.heap l xs) (hx:xs[i]?=none) (q:∀h' e,Heap.ExtBut it s.heap h'->(∃o,h'.get? e=some o/\o.cls= .type "StopIteration")->E (.ref e) {s with heap:=h'}):
 wpAny (model prog w) A (Builtin.SmallTypes.nextOf (.ref it)) Q E s:=by
 cases k
 . exact wpAny_nextOf_list_end hh st sq hx q
 . obtain ⟨o,e1,e2,e3⟩:=id st;obtain ⟨p,f1,_,n,f3⟩:=sq;have ty:=Heap.IsTupleIter.typeIs st;rw [Builtin.SmallTypes.nextOf];refine wpAny_bind (wpAny_callSpecial?_slot (name:=Str.ofString "__next__") ty F.slot_tuple_iterator_next (wpAny_call_entry F.slot_tuple_iterator_next ty F.entry_tuple_iterator_next ?_ (F.args_tuple_iterator_next_1 _)));show wpAny _ _ (do let y<-field (.ref it) 0;_) _ _ s
   refine wpAny_bind (wpAny_field e1 e3 (x:= .ref l) rfl ?_);show wpAny _ _ (if (Value.ref l==Value.none)=true then _ else _) _ _ _;refine (if_neg (show¬((Value.ref l==Value.none)=true) from yE))▸ ?_;show wpAny _ _ (do let y<-field (.ref it) 1;_) _ _ s
   refine wpAny_bind (wpAny_field e1 e3 (x:= .int i 0) rfl ?_);show wpAny _ _ (do let y<-seqItems? (.ref l);_) _ _ s
   refine wpAny_bind (wpAny_seqItems f1 f3 ?_);simp only [hx,zp];refine wpAny_bind (wpAny_rule (wpAny_bind (wpAny_setField e1 e3 (by simp) ?_)))
   show wpAny _ _ (do let y<-newExc (.type "StopIteration") [];_) _ _ _
   refine wpAny_bind ?_;simp only [newTuple,newExc];refine wpAny_bind (wpAny_newObj_type (wpAny_bind (m:=firstArgMember _ _) (wpAny_of_eq (a:=Value.none) (by first|rfl|(simp only [firstArgMember];rfl)) (wpAny_newObj_type ?_ (by size_fits)))) (by size_fits))
   simp only [raiseNew];refine wpAny_bind (wpAny_handled ?_)
   first|rw [show A.in1.handled=none from hh]|rw [hh]
   exact wpAny_bind (wpAny_pure (wpAny_throw (q _ _ (((Heap.SameBut.update ..).extBut.push _).push _) ⟨_,Heap.get?_push_size _ rfl,rfl⟩)))
end
open PySem
section
variable {prog:Program} {w:World} {A:Around} {E:Value->Shared->Prop} {s:Shared} {k:Src} {z TI TO i1 i2 l1 l2:Addr} {j:Nat} {xs ys:Array Value} {x y a b:Value}
theorem tz {Q:Value->Shared->Prop} (D:ZipApart z TI TO i1 i2 l1 l2) (hz:IsZip s.heap z TI TO .none) (hI:IsPair s.heap TI (.ref i1) (.ref i2)) (hO:IsPair s.heap TO a b)
 (t1:k.It s.heap i1 l1 j) (t2:k.It s.heap i2 l2 j) (q1:k.Sq s.heap l1 xs) (q2:k.Sq s.heap l2 ys) (ex:xs[j]?=some x) (ey:ys[j]?=some y)
 (q:∀h',IsZip h' z TI TO (rawInt s.heap.objs.size)->IsPair h' TO x y->k.It h' i1 l1 (j+1)->k.It h' i2 l2 (j+1)->IsPair h' s.heap.objs.size x y->h'.objs.size=s.heap.objs.size+1->
  (∀c o,c≠z->c≠TO->c≠i1->c≠i2->s.heap.get? c=some o->h'.get? c=some o)->Q (.ref s.heap.objs.size) {s with heap:=h'}):
 wpAny (model prog w) A (Builtin.«zip.__next__» ⟨[.ref z],[]⟩) (fun r s'=>∃v,r= .done (.ret v)/\Q v s') E s:=by
 show wpAny _ _ (do let u<-field (.ref z) 2;_) _ _ _
 refine wpAny_bind (wpAny_field hz rfl (x:= .bool false) rfl ?_);show wpAny _ _ (do let u<-field (.ref z) 3;_) _ _ _
 refine wpAny_bind (wpAny_field hz rfl (x:= .ref TI) rfl (wpAny_bind (wpAny_seqItems hI rfl ?_)));show wpAny _ _ (do let u<-Builtin.SmallTypes.ownedTupleIsFree (.ref z);_) _ _ _
 refine wpAny_bind ?_;rw [Builtin.SmallTypes.ownedTupleIsFree];refine wpAny_bind (wpAny_field hz rfl (x:= .none) rfl (wpAny_pure ?_));simp only [if_true];refine wpAny_bind (wpAny_rule (wpAny_bind (wpAny_field hz rfl (x:= .ref TO) rfl (wpAny_bind (wpAny_setField_rec hz (by simp) fun g1 y1 s1=> ?_)))))
 have y1:IsZip g1 z TI TO .ellipsis:=y1;refine wpAny_bind ?_;simp only [List.forIn_cons,List.forIn_nil,List.zipIdx_nil,List.zipIdx_cons];refine wpAny_bind (wpAny_bind (wpAny_onRaise ?_));show wpAny _ _ (do let u<-Builtin.SmallTypes.nextOf (.ref i1);_) _ _ _
 refine wpAny_bind (mE (s:= {s with heap:=g1}) (dA t1 fun o e=>s1.extBut _ o D.i1z e) (pJ q1 fun o e=>s1.extBut _ o D.l1z e) ex fun g2 u1 s2=>wpAny_pure ?_);have o2:IsPair g2 TO a b:=s2.extBut _ _ D.TOi1 (s1.extBut _ _ D.TOz hO);refine wpAny_bind (wpAny_seqItems o2 rfl (wpAny_bind (wpAny_updateSeq_pair (s:= {s with heap:=g2}) o2 fun g3 o3 s3=> ?_)));have o3:IsPair g3 TO x b:=o3;refine wpAny_bind (wpAny_letGo (wpAny_pure (wpAny_bind (wpAny_bind (wpAny_onRaise ?_)))));show wpAny _ _ (do let u<-Builtin.SmallTypes.nextOf (.ref i2);_) _ _ _
 refine wpAny_bind (mE (s:= {s with heap:=g3}) (dA t2 fun o e=>s3.extBut _ o D.TOi2.symm (s2.extBut _ o D.i12.symm (s1.extBut _ o D.i2z e))) (pJ q2 fun o e=>s3.extBut _ o D.l2TO (s2.extBut _ o D.l2i1 (s1.extBut _ o D.l2z e))) ey fun g4 u2 s4=>wpAny_pure ?_);have o4:IsPair g4 TO x b:=s4.extBut _ _ D.TOi2 o3;refine wpAny_bind (wpAny_seqItems o4 rfl (wpAny_bind (wpAny_updateSeq_pair (s:= {s with heap:=g4}) o4 fun g5 o5 s5=> ?_)));have o5:IsPair g5 TO x y:=o5;refine wpAny_bind (wpAny_letGo (wpAny_pure (wpAny_pure (wpAny_bind (wpAny_seqItems o5 rfl (wpAny_bind (wpAny_newTuple ?_)))))));have sz:g5.objs.size=s.heap.objs.size:=by rw [s5.1,s4.1,s3.1,s2.1,s1.1]
 have all:∀c o,c≠z->c≠TO->c≠i1->c≠i2->s.heap.get? c=some o->g5.get? c=some o:=fun c o c1 c2 c3 c4 e=>s5.extBut _ _ c2 (s4.extBut _ _ c4 (s3.extBut _ _ c2 (s2.extBut _ _ c3 (s1.extBut _ _ c1 e))));have y5:IsZip g5 z TI TO .ellipsis:=s5.extBut _ _ D.TOz.symm (s4.extBut _ _ D.i2z.symm (s3.extBut _ _ D.TOz.symm (s2.extBut _ _ D.i1z.symm y1)));have v1:k.It g5 i1 l1 (j+1):=dA u1 fun o e=>s5.extBut _ o D.TOi1.symm (s4.extBut _ o D.i12 (s3.extBut _ o D.TOi1.symm e));have v2:k.It g5 i2 l2 (j+1):=dA u2 fun o e=>s5.extBut _ o D.TOi2.symm e;have lz:z < g5.objs.size:=Heap.lt_size y5;show wpAny _ _ (do let u<-Builtin.SmallTypes.ownedTupleHandOut (.ref z) (.ref g5.objs.size);_) _ _ _
 refine wpAny_bind ?_;rw [Builtin.SmallTypes.ownedTupleHandOut];have y6:IsZip (g5.push {cls:= .type "tuple",data:= .seq #[x,y]}) z TI TO .ellipsis:=Heap.get?_push_of_some _ y5;refine wpAny_bind (wpAny_setField_rec y6 (by simp) fun g7 y7 s7=> ?_)
 have y7:IsZip g7 z TI TO (rawInt g5.objs.size):=y7;refine wpAny_setField_rec y7 (by simp) fun g8 y8 s8=> ?_
 have y8:IsZip g8 z TI TO (rawInt g5.objs.size):=y8;have up:∀c o,c≠z->g5.get? c=some o->g8.get? c=some o:=fun c o n e=>s8.extBut _ _ n (s7.extBut _ _ n (Heap.get?_push_of_some _ e));have p8:IsPair g8 g5.objs.size x y:=s8.extBut _ _ (Nat.ne_of_gt lz) (s7.extBut _ _ (Nat.ne_of_gt lz) (Heap.get?_push_size _ rfl));have z8:g8.objs.size=g5.objs.size+1:=by rw [s8.1,s7.1,Heap.size_push]
 rw [sz] at y8 p8 z8;refine wpAny_pure ⟨_,rfl,?_⟩;show Q (.ref g5.objs.size) _;rw [sz];exact q g8 y8 (up _ _ D.TOz o5) (dA v1 fun o e=>up _ o D.i1z e) (dA v2 fun o e=>up _ o D.i2z e) p8 z8 fun c o c1 c2 c3 c4 e=>up c o c1 (all c o c1 c2 c3 c4 e)
theorem vp {Q:Fin->Shared->Prop} (hh:A.handled=none) (D:ZipApart z TI TO i1 i2 l1 l2) (hz:IsZip s.heap z TI TO .none) (hI:IsPair s.heap TI (.ref i1) (.ref i2)) (hO:IsPair s.heap TO a b)
 (t1:k.It s.heap i1 l1 j) (t2:k.It s.heap i2 l2 j) (q1:k.Sq s.heap l1 xs) (q2:k.Sq s.heap l2 ys) (ends:xs[j]?=none)
 (q:∀h' e,(∀c o,c≠z->c≠TO->c≠i1->c≠i2->s.heap.get? c=some o->h'.get? c=some o)->(∃o,h'.get? e=some o/\o.cls= .type "StopIteration")->E (.ref e) {s with heap:=h'}):
 wpAny (model prog w) A (Builtin.«zip.__next__» ⟨[.ref z],[]⟩) Q E s:=by
 show wpAny _ _ (do let u<-field (.ref z) 2;_) _ _ _
 refine wpAny_bind (wpAny_field hz rfl (x:= .bool false) rfl ?_);show wpAny _ _ (do let u<-field (.ref z) 3;_) _ _ _
 refine wpAny_bind (wpAny_field hz rfl (x:= .ref TI) rfl (wpAny_bind (wpAny_seqItems hI rfl ?_)));show wpAny _ _ (do let u<-Builtin.SmallTypes.ownedTupleIsFree (.ref z);_) _ _ _
 refine wpAny_bind ?_;rw [Builtin.SmallTypes.ownedTupleIsFree];refine wpAny_bind (wpAny_field hz rfl (x:= .none) rfl (wpAny_pure ?_));simp only [if_true];refine wpAny_bind (wpAny_rule (wpAny_bind (wpAny_field hz rfl (x:= .ref TO) rfl (wpAny_bind (wpAny_setField_rec hz (by simp) fun g1 y1 s1=> ?_)))))
 have y1:IsZip g1 z TI TO .ellipsis:=y1;refine wpAny_bind ?_;simp only [List.forIn_cons,List.forIn_nil,List.zipIdx_nil,List.zipIdx_cons];refine wpAny_bind (wpAny_bind (wpAny_onRaise ?_));show wpAny _ _ (do let u<-Builtin.SmallTypes.nextOf (.ref i1);_) _ _ _
 refine wpAny_bind (wD (s:= {s with heap:=g1}) hh (dA t1 fun o e=>s1.extBut _ o D.i1z e) (pJ q1 fun o e=>s1.extBut _ o D.l1z e) ends fun g2 e s2 he=> ?_);obtain ⟨oe,e1,e2⟩:=he;have y2:IsZip g2 z TI TO .ellipsis:=s2 _ _ D.i1z.symm y1;have ne:e≠z:=fun n=>by subst n;rw [y2] at e1;cases e1;simp at e2
 exact wpAny_setField_rec y2 (by simp) fun g3 _ s3=>q g3 e (fun c o c1 _ c3 _ n=>s3.extBut _ _ c1 (s2 _ _ c3 (s1.extBut _ _ c1 n))) ⟨oe,s3.extBut _ _ ne e1,e2⟩
theorem tD {Q:Option Value->Shared->Prop} (D:ZipApart z TI TO i1 i2 l1 l2) (hz:IsZip s.heap z TI TO .none) (hI:IsPair s.heap TI (.ref i1) (.ref i2)) (hO:IsPair s.heap TO a b)
 (t1:k.It s.heap i1 l1 j) (t2:k.It s.heap i2 l2 j) (q1:k.Sq s.heap l1 xs) (q2:k.Sq s.heap l2 ys) (ex:xs[j]?=some x) (ey:ys[j]?=some y)
 (q:∀h',IsZip h' z TI TO (rawInt s.heap.objs.size)->IsPair h' TO x y->k.It h' i1 l1 (j+1)->k.It h' i2 l2 (j+1)->IsPair h' s.heap.objs.size x y->h'.objs.size=s.heap.objs.size+1->
  (∀c o,c≠z->c≠TO->c≠i1->c≠i2->s.heap.get? c=some o->h'.get? c=some o)->Q (some (.ref s.heap.objs.size)) {s with heap:=h'}):
 wpAny (model prog w) A (pyNext (.ref z)) Q E s:=by
 have ty:s.TypeIs (.ref z) "zip":=⟨_,hz,rfl⟩;rw [pyNext]
 exact wpAny_bind (wpAny_attempt (wpAny_callSpecial?_slot (name:=Str.ofString "__next__") ty F.slot_zip_next (wpAny_call_entry F.slot_zip_next ty F.entry_zip_next
  (tz D hz hI hO t1 t2 q1 q2 ex ey fun h' a1 a2 a3 a4 a5 a6 a7=>wpAny_pure (q h' a1 a2 a3 a4 a5 a6 a7)) (F.args_zip_next_1 _))))
theorem vq {Q:Option Value->Shared->Prop} (hh:A.handled=none) (D:ZipApart z TI TO i1 i2 l1 l2) (hz:IsZip s.heap z TI TO .none) (hI:IsPair s.heap TI (.ref i1) (.ref i2)) (hO:IsPair s.heap TO a b)
 (t1:k.It s.heap i1 l1 j) (t2:k.It s.heap i2 l2 j) (q1:k.Sq s.heap l1 xs) (q2:k.Sq s.heap l2 ys) (ends:xs[j]?=none)
 (q:∀h',(∀c o,c≠z->c≠TO->c≠i1->c≠i2->s.heap.get? c=some o->h'.get? c=some o)->Q none {s with heap:=h'}):wpAny (model prog w) A (pyNext (.ref z)) Q E s:=by
 have ty:s.TypeIs (.ref z) "zip":=⟨_,hz,rfl⟩;rw [pyNext];refine wpAny_bind (wpAny_attempt (wpAny_callSpecial?_slot (name:=Str.ofString "__next__") ty F.slot_zip_next (wpAny_call_entry F.slot_zip_next ty F.entry_zip_next (vp hh D hz hI hO t1 t2 q1 q2 ends fun h' e up he=> ?_) (F.args_zip_next_1 _))));obtain ⟨o,e1,e2⟩:=he;exact wpAny_bind (wpAny_isInstance (T:="StopIteration") (b:=true) ⟨o,e1,e2⟩ isSubtype_stop (wpAny_pure (q _ up)))
end
open PySem
abbrev zA (h:Heap) (l:Addr):Heap:=h.push {cls:= .type "tuple_iterator",data:= .fields #[.ref l, .int 0 0]}
abbrev zB (h:Heap) (l m:Addr):Heap:=zA (zA h l) m
abbrev zC (h:Heap) (l m:Addr):Heap:=(zB h l m).push {cls:= .type "tuple",data:= .seq #[.ref h.objs.size, .ref (zA h l).objs.size]}
abbrev zD (h:Heap) (l m:Addr):Heap:=(zC h l m).push {cls:= .type "tuple",data:= .seq #[.none, .none]}
abbrev zE (h:Heap) (l m:Addr):Heap:=(zD h l m).push {cls:= .type "zip",data:= .fields #[.none, .bool false, .bool false, .ref (zB h l m).objs.size, .ref (zC h l m).objs.size]}
theorem uq (l m:Addr) (xs ys:Array Value):Meets (Builtin.«zip.__new__» ⟨[.type "zip", .ref l, .ref m],[]⟩) (fun _ R s=>s.heap.IsTuple l xs/\s.heap.IsTuple m ys/\
 R (.ok (.ret (.ref (zD s.heap l m).objs.size))) {s with heap:=zE s.heap l m}):=
 .of_wp fun prog w A R s h=>by
  obtain ⟨hp,g,d,tk,os⟩:=s;obtain ⟨p1,p2,h⟩:=h;have hsub:=sub_zip;have p1:Heap.IsTuple (Shared.heap ⟨hp,g,d,tk,os⟩) l xs:=p1;have p2:Heap.IsTuple (Shared.heap ⟨zA hp l,g,d,tk,os⟩) m ys:=Heap.IsTuple.at p2 fun o e=>Heap.get?_push_of_some _ e
  wp_walk using wpAny_pyIter_tuple p1,wpAny_pyIter_tuple p2
  exact ⟨_,rfl,h⟩
section
variable {prog:Program} {w:World} {A:Around} {E:Value->Shared->Prop} {s:Shared}
theorem sX {k:Src} {l m:Addr} {xs ys:Array Value} {Q:Value->Shared->Prop} (p1:k.Sq s.heap l xs) (p2:k.Sq s.heap m ys)
 (q:∀h',IsZip h' (s.heap.objs.size+4) (s.heap.objs.size+2) (s.heap.objs.size+3) .none->IsPair h' (s.heap.objs.size+2) (.ref s.heap.objs.size) (.ref (s.heap.objs.size+1))->
  IsPair h' (s.heap.objs.size+3) .none .none->k.It h' s.heap.objs.size l 0->k.It h' (s.heap.objs.size+1) m 0->h'.objs.size=s.heap.objs.size+5->
  (∀c o,s.heap.get? c=some o->h'.get? c=some o)->Q (.ref (s.heap.objs.size+4)) {s with heap:=h'}):
 wpAny (model prog w) A (call (.type "zip") [.ref l, .ref m]) Q E s:=by
 cases k
 . exact call_zip_2 p1 p2 q
 . refine callType_new F.called_zip (by decide) (F.typeCall_zip_2 _ _) (F.newCall_zip_2 _ _) (fun obj=>F.args_object_init_3 obj _ _) F.entry_zip_new (uq l m xs ys) ⟨p1,p2,?_⟩
   have a1:(zA s.heap l).objs.size=s.heap.objs.size+1:=Heap.size_push ..;have a2:(zB s.heap l m).objs.size=s.heap.objs.size+2:=by rw [Heap.size_push,a1]
   have a3:(zC s.heap l m).objs.size=s.heap.objs.size+3:=by rw [Heap.size_push,a2]
   have a4:(zD s.heap l m).objs.size=s.heap.objs.size+4:=by rw [Heap.size_push,a3]
   have a5:(zE s.heap l m).objs.size=s.heap.objs.size+5:=by rw [Heap.size_push,a4]
   have b5:(zE s.heap l m).get? (zD s.heap l m).objs.size=some _:=Heap.get?_push_size _ rfl;have b4:(zE s.heap l m).get? (zC s.heap l m).objs.size=some _:=Heap.get?_push_of_some _ (Heap.get?_push_size _ rfl);have b3:(zE s.heap l m).get? (zB s.heap l m).objs.size=some _:=Heap.get?_push_of_some _ (Heap.get?_push_of_some _ (Heap.get?_push_size _ rfl));have b2:(zE s.heap l m).get? (zA s.heap l).objs.size=some _:=Heap.get?_push_of_some _ (Heap.get?_push_of_some _ (Heap.get?_push_of_some _ (Heap.get?_push_size _ rfl)));have b1:(zE s.heap l m).get? s.heap.objs.size=some _:=Heap.get?_push_of_some _ (Heap.get?_push_of_some _ (Heap.get?_push_of_some _ (Heap.get?_push_of_some _ (Heap.get?_push_size _ rfl))));show _/\_;rw [a2,a3,a4] at b5;rw [a1,a2] at b3;rw [a3] at b4;rw [a1] at b2;rw [a4];exact ⟨⟨_,b5,rfl⟩,q _ b5 b3 b4 ⟨_,b1,rfl,rfl⟩ ⟨_,b2,rfl,rfl⟩ a5 fun c o e=>Heap.get?_push_of_some _ (Heap.get?_push_of_some _ (Heap.get?_push_of_some _ (Heap.get?_push_of_some _ (Heap.get?_push_of_some _ e))))⟩
end
end Zp
namespace L2
open PySem PySem.Spec PyProof.Rows Zp
def Sqk (k:Src) (K:PySem.W.Frag) (H:Hp) (a:Addr) (xs:List V):Prop:=match k with
 | .lst=>SqL K H a xs
 | .tup=>SqT K H a xs
theorem Inv.sqk {X:Cx} {pins:List (Addr×Obj)} {σ:St} {H:Hp} {s:Shared} {k:Src} {a:Addr} {xs:List V} (I:Inv X pins σ H s) (h:Sqk k X.K H a xs):∃its:List Value,Vals xs its/\k.Sq s.heap a its.toArray/\xs.length<=sizeLine:=by
 cases k
 . obtain ⟨its,r,p,z⟩:=I.list h;exact ⟨its,r,p.isList,z⟩
 . obtain ⟨its,r,p,z⟩:=I.tuple h;exact ⟨its,r,p,z⟩
theorem Inv.sqk_inj {X:Cx} {pins:List (Addr×Obj)} {σ:St} {H:Hp} {s:Shared} {k:Src} {a:Addr} {xs ys:List V} (I:Inv X pins σ H s) (h:Sqk k X.K H a xs) (h':Sqk k X.K H a ys):xs=ys:=by
 cases k
 . exact I.list_inj h h'
 . exact I.tuple_inj h h'
noncomputable def Itz (k:Src) (K:PySem.W.Frag) (a b:Addr):It:=
 ⟨fun i H=>∃xs ys x y,Sqk k K H a xs/\Sqk k K H b ys/\xs[i]?=some x/\ys[i]?=some y,
  fun i H v H'=>∃T x y,v= .ref T/\H T=none/\H'=upd H T (.tup [x,y])/\(∀xs,Sqk k K H a xs->xs[i]?=some x)/\(∀ys,Sqk k K H b ys->ys[i]?=some y)/\i < sizeLine,
  fun i H=>∃xs ys,Sqk k K H a xs/\Sqk k K H b ys/\xs.length<=i⟩
section
variable {X:Cx} {pins:List (Addr×Obj)} {σ:St} {H:Hp} {s:Shared}
theorem Inv.turneds {h':Heap} {t':Nat} {fp:List Addr} (I:Inv X pins σ H s) (k:∀b o,b∉fp->s.heap.get? b=some o->h'.get? b=some o) (hf:∀b∈fp,FpOk X pins H b):Inv X pins σ H {s with heap:=h',toks:=t'}:=by
 refine I.call' (s':= {s with heap:=h',toks:=t'}) (ch:=fp) rfl ⟨fun b o e _ _ hx=>k b o hx e,fun b o e _ _ hx=>⟨o.slots,k b o hx e⟩,fun _ _ _ n _=>n,fun b o e hx=>⟨o,k b o hx e⟩,fun _ _ e=>e,fun _ _ _ e=>e,fun b ps e=>⟨#[],by rw [e];simp⟩⟩ ?_ I.bare fun b hb=> ?_
 . intro b o e;have nb:∀c u,H c=some u->c∉fp:=fun c u e z=>by rw [(hf c z).1] at e;cases e
   refine (I.hok b o e).stay (fun c v hc q=>k c v ?_ q) (fun _ q=>q) fun _ _ q=>q;rcases hc with z|z
   . rw [z];exact nb b o e
   . exact nb c _ z
 . obtain ⟨g0,g1,g2,g3,g4,g5⟩:=hf b hb;exact ⟨g3,g1,g4,g5⟩
end
theorem oR {P:Program} {w:World} {K:PySem.W.Frag} {es:List Expr} {kk:Nat} {pos:Pos} {k:Src} (a b z TI TO i1 i2:Addr) (hd: [z,TI,TO,i1,i2].Nodup):
 Turn P w K (.Tuple es kk pos) (Itz k K a b) [z,TI,TO,i1,i2] z (fun i h=>IsZip h z TI TO .none/\IsPair h TI (.ref i1) (.ref i2)/\(∃u v,IsPair h TO u v)/\k.It h i1 a i/\k.It h i2 b i/\a∉ [z,TI,TO,i1,i2]/\b∉ [z,TI,TO,i1,i2]) where
 mem:=by simp
 obj:=fun i h ⟨h1,h2,⟨u,v,h3⟩,h4,h5,_⟩ c hc=>by
  simp only [yx,yY,or_false] at hc;rcases hc with rfl|rfl|rfl|rfl|rfl
  . exact ⟨_,h1,fun v e=>by cases (show Data.fields _=Data.cell v from e)⟩
  . exact ⟨_,h2,fun v e=>by cases (show Data.seq _ _=Data.cell v from e)⟩
  . exact ⟨_,h3,fun v e=>by cases (show Data.seq _ _=Data.cell v from e)⟩
  . exact jf h4
  . exact jf h5
 keep:=fun i h h' ⟨h1,h2,⟨u,v,h3⟩,h4,h5,h6⟩ kp=>⟨kp z (by simp) _ h1,kp TI (by simp) _ h2,⟨u,v,kp TO (by simp) _ h3⟩,dA h4 fun o e=>kp i1 (by simp) o e,dA h5 fun o e=>kp i2 (by simp) o e,h6⟩
 item:=by
  intro X hP hw hK hc i pins s σ H E I hf ⟨h1,h2,⟨u0,v0,h3⟩,h4,h5,h6,h7⟩ hg;subst hP hw hK;refine hZq fun q_ e_=> ?_;obtain ⟨xs,ys,x,y,g1,g2,g3,g4⟩:=hg;obtain ⟨as,r1,p1,z1⟩:=I.sqk g1;obtain ⟨bs,r2,p2,z2⟩:=I.sqk g2;obtain ⟨u,e1,q1⟩:=r1.get g3;obtain ⟨v,e2,q2⟩:=r2.get g4;simp only [zu,yx,yY,or_false,not_or,List.nodup_nil,and_true,not_false_eq_true] at hd h6 h7;obtain ⟨⟨d1,d2,d3,d4⟩,⟨d5,d6,d7⟩,⟨d8,d9⟩,d10⟩:=hd;subst e_;have D:ZipApart z TI TO i1 i2 a b:=⟨Ne.symm d1,Ne.symm d2,Ne.symm d3,Ne.symm d4,d5,d6,d7,d8,d9,d10,h6.1,h6.2.2.1,h6.2.2.2.1,h6.2.2.2.2,h7.1,h7.2.2.1,h7.2.2.2.1,h7.2.2.2.2⟩;refine tD D h1 h2 h3 h4 h5 p1 p2 (x:=u) (y:=v) (by simpa using e1) (by simpa using e2) fun h' a1 a2 a3 a4 a5 a6 up=>⟨_,rfl,?_⟩
  refine wpAny_letOwnedTupleGo_zip (s:= {s with heap:=h'}) a1 fun h'' b1 sb=> ?_;have T:=s.heap.objs.size;have fr:H s.heap.objs.size=none:=I.hok.fresh (yp _);have lt:∀ {c:Addr} {o:Obj},s.heap.get? c=some o->c≠s.heap.objs.size:=fun e=>yA (Heap.lt_size e)
  have all:∀c o,c∉ [z,TI,TO,i1,i2]->s.heap.get? c=some o->h''.get? c=some o:=fun c o n e=>by
   simp only [yx,yY,or_false,not_or] at n;exact sb.extBut c o n.1 (up c o n.1 n.2.2.1 n.2.2.2.1 n.2.2.2.2 e)
  have nz:s.heap.objs.size≠z:=(lt h1).symm;have pT:IsPair h'' s.heap.objs.size u v:=sb.extBut _ _ nz a5
  have fp:∀b∈ [z,TI,TO,i1,i2],upd H s.heap.objs.size (.tup [x,y]) b=none:=fun c hc=>by
   have nc:c≠s.heap.objs.size:=by
    simp only [yx,yY,or_false] at hc;rcases hc with rfl|rfl|rfl|rfl|rfl
    . exact lt h1
    . exact lt h2
    . exact lt h3
    . obtain ⟨o,e,_⟩:=jf h4;exact lt e
    . obtain ⟨o,e,_⟩:=jf h5;exact lt e
   rw [ae nc];exact (hf c hc).1
  refine ⟨.ref s.heap.objs.size,upd H s.heap.objs.size (.tup [x,y]),?_,rfl,⟨_,x,y,rfl,fr,rfl,fun zs hz=> ?_,fun zs hz=> ?_,yL (yt.mp g3).1 z1⟩,⟨b1,?_,⟨u,v,?_⟩,?_,?_,?_,?_⟩,fp⟩
  ·
   refine I.call' (s':= {s with heap:=h''}) (ch:= [z,TI,TO,i1,i2]) rfl ⟨fun b o e _ _ hx=>all b o hx e,fun b o e _ _ hx=>⟨o.slots,all b o hx e⟩,fun c o e n _=>by rw [ae (lt e)];exact n,fun b o e hx=>⟨o,all b o hx e⟩,fun c zs e=>by rw [ae (aE e fr)];exact e,fun c o zs e=>by rw [ae (aE e fr)];exact e,fun c ps e=>⟨#[],by rw [ae (aE e fr),e];simp⟩⟩ ?_ I.bare fun b hb=> ?_
   . intro c o e;by_cases hcT:c=s.heap.objs.size
     . subst hcT;rw [a8] at e;cases e;exact ⟨by show 2<=sizeLine;decide,[u,v], .cons q1 (.cons q2 .nil),⟨_,pT,rfl,_,rfl⟩⟩
     . rw [ae hcT] at e;have nb:∀c u,H c=some u->c∉ [z,TI,TO,i1,i2]:=fun c u e hz=>by rw [(hf c hz).1] at e;cases e
       refine (I.hok c o e).stay (fun d v hc q=>all d v ?_ q) (fun d q=> ?_) fun d m q=> ?_
       . rcases hc with hz|hz
         . rw [hz];exact nb c o e
         . exact nb d _ hz
       . rw [ae (aE q fr)];exact q
       . rw [ae (aE q fr)];exact q
   . refine hZq fun q_ e_=> ?_;obtain ⟨g0,g1,g2,g3,g4,g5⟩:=hf b hb;subst e_;exact ⟨g3,g1,g4,g5⟩
  . rw [I.sqk_inj hz g1];exact g3
  . rw [I.sqk_inj hz g2];exact g4
  . exact sb.extBut _ _ D.TIz (up _ _ D.TIz D.TITO D.TIi1 D.TIi2 h2)
  . exact sb.extBut _ _ D.TOz a2
  . exact dA a3 fun o e=>sb.extBut _ o D.i1z e
  . exact dA a4 fun o e=>sb.extBut _ o D.i2z e
  . simpa using h6
  . simpa using h7
 done:=by
  intro X hP hw hK hc i pins s σ H E I hf ⟨h1,h2,⟨u0,v0,h3⟩,h4,h5,h6,h7⟩ hg;subst hP hw hK;refine hZq fun q_ e_=> ?_;obtain ⟨xs,ys,g1,g2,g3⟩:=hg;obtain ⟨as,r1,p1,z1⟩:=I.sqk g1;obtain ⟨bs,r2,p2,z2⟩:=I.sqk g2;have hl:=r1.length;simp only [zu,yx,yY,or_false,not_or,List.nodup_nil,and_true,not_false_eq_true] at hd h6 h7;obtain ⟨⟨d1,d2,d3,d4⟩,⟨d5,d6,d7⟩,⟨d8,d9⟩,d10⟩:=hd;subst e_;have D:ZipApart z TI TO i1 i2 a b:=⟨Ne.symm d1,Ne.symm d2,Ne.symm d3,Ne.symm d4,d5,d6,d7,d8,d9,d10,h6.1,h6.2.2.1,h6.2.2.2.1,h6.2.2.2.2,h7.1,h7.2.2.1,h7.2.2.2.1,h7.2.2.2.2⟩;refine vq (I.ok.hd hc) D h1 h2 h3 h4 h5 p1 p2 (by simp;omega) fun h' up=>⟨rfl,I.turneds (t':=s.toks) (fun c o n e=> ?_) hf⟩
  simp only [yx,yY,or_false,not_or] at n;exact up c o n.1 n.2.2.1 n.2.2.2.1 n.2.2.2.2 e
 self:=fun _ _ _ _ _ st h=>wpAny_pyIter_zip st.1 h
section
variable {X:Cx}
def iZip (k:Src) (K:PySem.W.Frag) (ta:TA):TI:=fun σ H R=>ta σ H fun vs H1=>∃a b xs ys,vs= [.ref a, .ref b]/\Sqk k K H1 a xs/\Sqk k K H1 b ys/\R (Itz k K a b) H1
theorem iY {k:Src} {es:List Expr} {kk:Nat} {pt:Pos} {x y:Expr} {ta:TA} {p pos:Pos} (hg:Gl X "zip") (hm:X.mg "zip"=none) (ha:PA X [x,y] ta) (hs:starEach [x,y] X.env= [(false,eval x X.env),(false,eval y X.env)]:=by rfl) (hs2:starEach [y] X.env= [(false,eval y X.env)]:=by rfl):
 PI X (.Tuple es kk pt) (.Call (.Name "zip" p) [x,y] [] pos) (iZip k X.K ta):=by
 intro pins s σ H R I h;refine Call_ (fk I hg hm PyProof.Rows.boot_zip (PyProof.Rows.callWith_type1 (thn (ha pos pins s σ H _ I h) fun us s1 ⟨vs,H1,I1,r1,q1⟩=> ?_) (by rw [hs,hs2]) (by rw [hs2];rfl)))
 refine hZq fun q_ e_=> ?_;obtain ⟨a,b,xs,ys,e,k1,k2,q⟩:=q1;subst e_;subst e
 cases r1 with
 |cons r rr=>
  cases rr with
  |cons r' rr=>
   cases rr;cases r;cases r';refine hZq fun q_ e_=> ?_;obtain ⟨as,_,p1,_⟩:=I1.sqk k1;obtain ⟨bs,_,p2,_⟩:=I1.sqk k2;subst e_;refine sX p1 p2 fun h' hz hI hO t1 t2 sz up=> ?_;refine wpAny_pyIter_zip (s:= {s1 with heap:=h'}) hz ?_
   have lta:a < s1.heap.objs.size:=by
    cases k
    . obtain ⟨o,e,_⟩:=p1;exact Heap.lt_size e
    . obtain ⟨o,e,_⟩:=p1;exact Heap.lt_size e
   have ltb:b < s1.heap.objs.size:=by
    cases k
    . obtain ⟨o,e,_⟩:=p2;exact Heap.lt_size e
    . obtain ⟨o,e,_⟩:=p2;exact Heap.lt_size e
   have na:∀j,a≠s1.heap.objs.size+j:=fun j=>yA (yL lta (zN ..));have nb:∀j,b≠s1.heap.objs.size+j:=fun j=>yA (yL ltb (zN ..))
   have le:∀c∈ [s1.heap.objs.size+4,s1.heap.objs.size+2,s1.heap.objs.size+3,s1.heap.objs.size+0,s1.heap.objs.size+1],s1.heap.objs.size<=c:=fun c hc=>by
    simp only [yx,yY,or_false] at hc;rcases hc with rfl|rfl|rfl|rfl|rfl<;>exact zN ..
   refine ⟨s1.heap.objs.size+4,[s1.heap.objs.size+4,s1.heap.objs.size+2,s1.heap.objs.size+3,s1.heap.objs.size+0,s1.heap.objs.size+1],_,_,H1,rfl,I1.kept (t':=s1.toks) up,oR a b _ _ _ _ _ (by simp),⟨hz,hI,⟨_,_,hO⟩,t1,t2,?_,?_⟩,fun c hc=>I1.fpOk (le c hc) (I1.hok.fresh (le c hc)),q⟩
   . simp only [yx,yY,or_false,not_or];exact ⟨na 4,na 2,na 3,na 0,na 1⟩
   . simp only [yx,yY,or_false,not_or];exact ⟨nb 4,nb 2,nb 3,nb 0,nb 1⟩
open PySem PySem.Spec PyProof.Rows Zp
end
end L2
namespace Tre
open PySem L2 Zp
end Tre
namespace Tre
open PySem PySem.Spec PyProof.Rows L2
section
variable {X:Cx}
theorem t9 {H:Hp} {t:Tr} {e:Value->Bool}:∀ {xs:List V} {us:List Value} {ts:List Tr},Vals xs us->TrsAt H xs ts->(∀v u s,RelV v u->TrAt H v s->e u=eqT s t)->us.any e=ts.any fun s=>eqT s t
 |_,_,[],r,h,_=>by
  unfold TrsAt at h;subst h;cases r;rfl
 |_,_,s::ts,r,h,he=>by
  unfold TrsAt at h;obtain ⟨v,q,rfl,h1,h2⟩:=h
  cases r with
  |cons r1 r2=>rw [List.any_cons,List.any_cons,t9 r2 h2 he,he _ _ _ r1 h1]
open PySem PySem.Spec PyProof.Rows L2
def SqE (H:Hp) (p:Addr) (xs:List V):Prop:=H p=some (.lst xs)\/H p=some (.tup xs)
def rIn (b:Bool):R2:=fun x y H Q=>∃p xs ts t,y= .ref p/\SqE H p xs/\TrsAt H xs ts/\TrAt H x t/\(∀u∈ts,u.depth<=40)/\t.pure/\Q (.bl ((ts.any fun u=>eqT u t)==b)) H
theorem jU {pins:List (Addr×Obj)} {s:Shared} {σ:L2.St} {H:Hp} {xs:List V} {ts:List Tr} {t:Tr} {x:V} {v:Value} {its:List Value} (hu:X.A.units+50 < cLine) (I:Inv X pins σ H s) (rx:RelV x v) (r:Vals xs its) (hT:TrsAt H xs ts) (ht:TrAt H x t) (hd:∀u∈ts,u.depth<=40) (hpu:t.pure):
 ∃e:Value->Bool,(∀w,w∈its.toArray->SeqAt.EqAt X.A.in1 s w v (e w))/\its.toArray.any e=ts.any fun s=>eqT s t:=by
 classical
 have he:∀v' u' s',RelV v' u'->TrAt H v' s'->decide (∃v s,RelV v u'/\TrAt H v s/\eqT s t=true)=eqT s' t:=fun v' u' s' r' h'=>by
  cases e:eqT s' t with
  |true=>exact decide_eq_true ⟨v',s',r',h',e⟩
  |false=>
   refine decide_eq_false ?_;rintro ⟨v2,s2,r2,h2,e2⟩;cases r2.inj r';rw [TrAt.det h2 h',e] at e2;cases e2
 refine ⟨fun u'=>decide (∃v s,RelV v u'/\TrAt H v s/\eqT s t=true),fun w hw=> ?_,?_⟩
 . have hw':w∈its:=by simpa using hw
   obtain ⟨j,hj,ej⟩:=zf hw';have l1:=r.length;have l2:=hT.len;have t1:ts[j]?=some (ts[j]'(by omega)):=yj _
   obtain ⟨v',e1,a1⟩:=hT.get t1;obtain ⟨u',e2,q2⟩:=r.get e1;rw [yj hj,ej] at e2;cases e2;dsimp only;rw [he _ _ _ q2 a1];exact iJ I 40 (hd _ (yq t1)) (.inr hpu) a1 ht q2 rx (by show X.A.units+1+40+1 < cLine;omega)
 . rw [List.any_toArray];exact t9 r hT he
theorem nV (b:Bool):(b==true)=b:=by cases b<;>rfl
theorem vX (hu:X.A.units+50 < cLine):OpR X (compareOp .In) (rIn true):=by
 intro pins s σ H x y v u Q I rx ry h;obtain ⟨p,xs,ts,t,rfl,hp,hT,ht,hd,hpu,q⟩:=h;cases ry;rcases hp with hp|hp
 . obtain ⟨its,r,pl,hz⟩:=I.list (SqL.of hp);obtain ⟨e,h1,h2⟩:=jU hu I rx r hT ht hd hpu;refine SeqAt.in_listAt e pl.isList h1 ⟨.bl _,H,I,rfl,?_⟩;rw [h2,<-nV (ts.any fun s=>eqT s t)];exact q
 . obtain ⟨its,r,pl,hz⟩:=I.tuple (SqT.of hp);obtain ⟨e,h1,h2⟩:=jU hu I rx r hT ht hd hpu;refine SeqAt.in_tupleAt e (show s.heap.IsTuple p its.toArray from pl) h1 ⟨.bl _,H,I,rfl,?_⟩;rw [h2,<-nV (ts.any fun s=>eqT s t)];exact q
end
end Tre
namespace L2
open PySem PySem.Spec PyProof.Rows
section
variable {X:Cx}
end
theorem sV {K K':PySem.W.Frag} {a:Addr} {mp:List (Option Nat)} {tl:TE} {te:TE} {Q:VK} {σ rest:L2.St} {H H1:Hp} {xs:List V} (e:subS mp σ=none::none::rest)
 (ha:∀Q:VK,Q (.ref a) H1->tl σ H Q) (h1:SqT K H1 a xs)
 (h:∀D,H1 D=none->∃Pv:Nat->List V->Hp->Prop,Pv 0 [] (upd H1 D (.lst []))/\(∀i acc H,Pv i acc H->SqT K H a xs)/\
  (∀i z acc H,i < xs.length->Pv i acc H->xs[i]?=some z->∃T x y,z= .ref T/\SqT K' H T [x,y]/\te (some x::some y::rest) H (CompN xs.length i D acc Pv))/\∀acc H,Pv xs.length acc H->Q (.ref D) H):
 cu mp (iTup K tl) (gTup K' 2 (bf (aL 0) (bf (aL 1) gNil))) cZ te σ H Q:=by
 unfold cu;rw [e];refine ha _ ⟨a,rfl,⟨xs,h1⟩,fun D nD=> ?_⟩;refine hZq fun q_ e_=> ?_;obtain ⟨Pv,p0,pq,ps,pd⟩:=h D nD;subst e_;refine ⟨fun i m acc H=>m=xs.length - i/\i<=xs.length/\Pv i acc H,⟨xs.length,by simp,yJ _,p0⟩,?_⟩
 rintro i m acc H ⟨rfl,hi,p⟩;have q1:=pq i acc H p;by_cases hlt:i < xs.length
 . refine .inr ⟨⟨xs,xs[i],q1,by simp [hlt]⟩,?_⟩
   intro v H' z_;refine hZq fun q_ e_=> ?_;obtain ⟨rfl,y⟩:=z_;have ev:=y xs q1;obtain ⟨T,x,z,rfl,hT,hte⟩:=ps i v acc _ hlt p ev;subst e_;exact ⟨T,[x,z],rfl,hT,rfl,x,[z],rfl,z,[],rfl,rfl,ext2,hte⟩
 . have ei:i=xs.length:=by omega
   subst ei;exact .inl ⟨⟨xs,q1,yp _⟩,pd acc H p⟩
end L2
namespace Wd
open PySem L2 Tre Mth Dj
def FlG (kF:List (Key×V)):Prop:=∀x v,valV kF (.inr x)=some v->∃b,v=V.bl b
def VaG (H:Hp) (kV:List (Key×V)):Prop:=∀x v,valV kV (.inr x)=some v->∃p,TrAt H v (frT p)/\Gv p
def CaG (H:Hp) (kC:List Ent):Prop:=∀k v,valJ kC k=some v->∃p,TrAt H v (frT p)/\Gv p
structure WS (P:Program) (w:World) (K:PySem.W.Frag) (H:Hp) (F D C:Addr) (n:Nat):Prop where
 ne:F≠D
 fl:∃kF,H F=some (.dK kF)/\FlG kF/\kF.length<=n
 va:∃kV,H D=some (.dK kV)/\VaG H kV/\kV.length<=n
 ca:∃kC,DJ P w K H C kC/\CaG H kC/\kC.length<=n
section
variable {P:Program} {w:World} {K:PySem.W.Frag} {H H':Hp} {F D C:Addr} {n:Nat}
end
def WAt (P:Program) (w:World) (K:PySem.W.Frag) (H:Hp) (v:V) (W:Wld):Prop:=∃r F D C kF kV kC,v= .ref r/\H r=some (.tup [.ref F, .ref D, .ref C])/\
 (H F=some (.dK kF)/\∀x,(valV kF (.inr x)).getD (.bl false)= .bl (W.fl x))/\
 (H D=some (.dK kV)/\∀x,(∃u,valV kV (.inr x)=some u/\TrAt H u (frT (W.va x)))\/(valV kV (.inr x)=none/\W.va x=zero))/\
 (DJ P w K H C kC/\∀k,(∃u,valJ kC k=some u/\TrAt H u (frT (W.ca k)))\/(valJ kC k=none/\W.ca k=zero))
section
variable {P:Program} {w:World} {K:PySem.W.Frag} {H H':Hp} {F D C r:Addr} {n:Nat} {v:V} {W:Wld}
theorem WS.at_ (h:WS P w K H F D C n) (e:H r=some (.tup [.ref F, .ref D, .ref C])):∃W:Wld,W.Ok/\WAt P w K H (.ref r) W:=by
 obtain ⟨kF,f1,f2,f3⟩:=h.fl;obtain ⟨kV,v1,v2,v3⟩:=h.va;obtain ⟨kC,c1,c2,c3⟩:=h.ca
 have hF:∀x:Str,∃b,(valV kF (.inr x)).getD (.bl false)= .bl b:=fun x=>by
  cases q:valV kF (.inr x) with
  |none=>exact ⟨false,rfl⟩
  |some v=>
   obtain ⟨b,rfl⟩:=f2 x v q;exact ⟨b,rfl⟩
 have hV:∀x:Str,∃p,Gv p/\((∃u,valV kV (.inr x)=some u/\TrAt H u (frT p))\/(valV kV (.inr x)=none/\p=zero)):=fun x=>by
  cases q:valV kV (.inr x) with
  |none=>exact ⟨zero,nu, .inr ⟨rfl,rfl⟩⟩
  |some v=>
   obtain ⟨p,h1,h2⟩:=v2 x v q;exact ⟨p,h2, .inl ⟨v,rfl,h1⟩⟩
 have hC:∀k:List Tk.KT,∃p,Gv p/\((∃u,valJ kC k=some u/\TrAt H u (frT p))\/(valJ kC k=none/\p=zero)):=fun k=>by
  cases q:valJ kC k with
  |none=>exact ⟨zero,nu, .inr ⟨rfl,rfl⟩⟩
  |some v=>
   obtain ⟨p,h1,h2⟩:=c2 k v q;exact ⟨p,h2, .inl ⟨v,rfl,h1⟩⟩
 exact ⟨⟨fun x=>Classical.choose (hF x),fun x=>Classical.choose (hV x),fun k=>Classical.choose (hC k)⟩,⟨fun x=>(Classical.choose_spec (hV x)).1,fun k=>(Classical.choose_spec (hC k)).1⟩,
  r,F,D,C,kF,kV,kC,rfl,e,⟨f1,fun x=>Classical.choose_spec (hF x)⟩,⟨v1,fun x=>(Classical.choose_spec (hV x)).2⟩,⟨c1,fun k=>(Classical.choose_spec (hC k)).2⟩⟩
end
end Wd
namespace L2
open PySem Tre Wd
theorem bX {t rest:TS} {Z:Ends} {σ:L2.St} {H:Hp} (R:L2.St->Hp->Prop) (hR:∀σ' H',R σ' H'->rest Z σ' H') (h:∀nx:L2.St->Hp->Prop,(∀σ' H',R σ' H'->nx σ' H')->t {Z with nx:=nx} σ H):tSeq t rest Z σ H:=h _ hR
theorem ag {i:Nat} {v:V} {σ:L2.St} {H:Hp} {k:L2.St->Hp->Prop} (h:k (σ.set i (some v)) H):aL i v σ H k:=h
theorem gi {Z:Ends} {σ:L2.St} {H:Hp} (h:Z.nx σ H):uV Z σ H:=h
theorem tI {r:List V->Hp->VK->Prop} {te:TE} {Z:Ends} {σ:L2.St} {H:Hp} (h:te σ H fun v H1=>r [v] H1 Z.rt):tRet (tCB r (i8 te tNil)) Z σ H:=h
theorem tH {te:TE} {Z:Ends} {σ:L2.St} {H:Hp} (h:te σ H Z.rt):tRet te Z σ H:=h
theorem vC {te:TE} {σ:L2.St} {H:Hp} {Q:List V->Hp->Prop} (h:te σ H fun v H1=>Q [v] H1):i8 te tNil σ H Q:=h
theorem jY {H:Hp} {v:V} {x:Str} {r:List Tr} (h:TrAt H v (.tup (.str x::r))):∃a vs,v= .ref a/\H a=some (.tup (.str x::vs))/\TrsAt H vs r:=by
 unfold TrAt at h;obtain ⟨a,vs,e,h1,h2⟩:=h;obtain ⟨y,r1,rfl,h3,h4⟩:=h2.inv;unfold TrAt at h3;subst h3;exact ⟨a,r1,e,h1,h4⟩
theorem at2 {H:Hp} {v:V} {k:Str} {t:Tr} (h:TrAt H v (.tup [.str k,t])):∃a y,v= .ref a/\H a=some (.tup [.str k,y])/\TrAt H y t:=by
 obtain ⟨a,vs,e,h1,h2⟩:=jY h;obtain ⟨y,r,rfl,h3,h4⟩:=h2.inv;unfold TrsAt at h4;subst h4;exact ⟨a,y,e,h1,h3⟩
theorem at3 {H:Hp} {v:V} {k:Str} {t u:Tr} (h:TrAt H v (.tup [.str k,t,u])):∃a y z,v= .ref a/\H a=some (.tup [.str k,y,z])/\TrAt H y t/\TrAt H z u:=by
 obtain ⟨a,vs,e,h1,h2⟩:=jY h;obtain ⟨y,r,rfl,h3,h4⟩:=h2.inv;obtain ⟨z,r2,rfl,h5,h6⟩:=h4.inv;unfold TrsAt at h6;subst h6;exact ⟨a,y,z,e,h1,h3,h5⟩
theorem at_s {H:Hp} {v:V} {x:Str} (h:TrAt H v (.str x)):v= .str x:=by
 unfold TrAt at h;exact h
theorem at_t {H:Hp} {v:V} {ts:List Tr} (h:TrAt H v (.tup ts)):∃a vs,v= .ref a/\H a=some (.tup vs)/\TrsAt H vs ts:=by
 unfold TrAt at h;exact h
theorem dM {H:Hp} {r:Addr} {vs:List V} {ts:List Tr} (h:H r=some (.tup vs)) (h1:TrsAt H vs ts):TrAt H (.ref r) (.tup ts):=by
 unfold TrAt;exact ⟨r,vs,rfl,h,h1⟩
theorem c6 {H:Hp} {v:V} {a b:Tr} (h:TrAt H v (.tup [a,b])):∃r x y,v= .ref r/\H r=some (.tup [x,y])/\TrAt H x a/\TrAt H y b:=by
 unfold TrAt at h;obtain ⟨r,vs,e,h1,h2⟩:=h;obtain ⟨x,r1,rfl,h3,h4⟩:=h2.inv;obtain ⟨y,r2,rfl,h5,h6⟩:=h4.inv;unfold TrsAt at h6;subst h6;exact ⟨r,x,y,e,h1,h3,h5⟩
theorem uA {H:Hp} {v:V} {a b:Int} (h:TrAt H v (.tup [.int a, .int b])):∃r,v= .ref r/\H r=some (.tup [.int a, .int b]):=by
 obtain ⟨r,x,y,e,h1,h2,h3⟩:=c6 h;unfold TrAt at h2 h3;subst h2 h3;exact ⟨r,e,h1⟩
theorem di {H:Hp} {r:Addr} {x y:V} {a b:Tr} (h:H r=some (.tup [x,y])) (h1:TrAt H x a) (h2:TrAt H y b):TrAt H (.ref r) (.tup [a,b]):=by
 unfold TrAt;exact ⟨r,_,rfl,h, .cons h1 (.cons h2 .nil)⟩
theorem jt {H:Hp} {r:Addr} {a b:Int} (h:H r=some (.tup [.int a, .int b])):TrAt H (.ref r) (.tup [.int a, .int b]):=di h (by unfold TrAt;rfl) (by unfold TrAt;rfl)
theorem eW {H:Hp} {v:V} {p:Fr} (h:TrAt H v (frT p)):∃r,v= .ref r/\H r=some (.tup [.int p.1, .int p.2]):=uA h
end L2
namespace L2
open PySem PySem.Spec PyProof.Rows
section
variable {X:Cx}
end
end L2
namespace Tre
open PySem L2
theorem TrsAt.set {H:Hp} {v:V} {t:Tr} (hv:TrAt H v t):∀ {vs:List V} {ts:List Tr} {i:Nat},TrsAt H vs ts->TrsAt H (vs.set i v) (ts.set i t)
 |vs,[],i,h=>by
  unfold TrsAt at h;subst h;simp;exact .nil
 |vs,u::ts,0,h=>by
  obtain ⟨w,r,rfl,h1,h2⟩:=h.inv;exact .cons hv h2
 |vs,u::ts,i+1,h=>by
  obtain ⟨w,r,rfl,h1,h2⟩:=h.inv;exact .cons h1 (TrsAt.set hv h2)
theorem iK {t:Tr} (h:Ty .tm t):∃ts,t= .tup ts:=by
 cases h<;>exact ⟨_,rfl⟩
end Tre
namespace Su
open PySem L2 Tre Mth Wd
theorem gG {α β:Type} {f:α->β} {us vs:List β} (h:us.Perm vs):∀ {ps:List α},vs=ps.map f->∃qs:List α,us=qs.map f/\qs.Perm ps:=by
 induction h with
 |nil=>intro ps e;exact ⟨[],rfl,by cases ps with|nil=>exact .nil|cons p ps=>simp at e⟩
 |cons x _ ih=>
  intro ps e
  cases ps with
  |nil=>simp at e
  |cons p ps=>
   rw [yG,zJ] at e;obtain ⟨qs,e1,e2⟩:=ih e.2;exact ⟨p::qs,by rw [yG,e1,e.1],e2.cons p⟩
 |swap x y l=>
  intro ps e
  cases ps with
  |nil=>simp at e
  |cons p ps=>
   cases ps with
   |nil=>simp at e
   |cons q ps=>
    simp only [yG,zJ] at e;obtain ⟨e1,e2,e3⟩:=e;exact ⟨q::p::ps,by simp only [yG,e1,e2,e3], .swap p q ps⟩
 |trans _ _ h1 h2=>
  intro ps e;obtain ⟨ms,e1,p1⟩:=h2 e;obtain ⟨qs,e2,p2⟩:=h1 e1;exact ⟨qs,e2,p2.trans p1⟩
structure Gq (e:Nat) (p:Pq):Prop where
 ty:Ty .tm p.1
 dep:p.1.depth<=7
 gf:Gf e p.2
 sh:Sh p.2
theorem Gq.pr {e:Nat} {p:Pq} (h:Gq e p):Ty .pr (prT p)/\(prT p).depth<=8:=by
 refine ⟨.pr _ _ h.ty (.fr _ _),?_⟩;have:=h.dep;unfold prT frT;simp only [Tr.depth,Trs.depth];omega
theorem ay {α:Type} {us:List α} {i:Nat} {u:α} (e:us[i]?=some u):us.take (i+1)=us.take i++ [u]:=by
 rw [List.take_add_one,e];rfl
open PySem L2 Tre Mth Wd
noncomputable def scale (q:Fr) (p:Pq):Pq:=(p.1,gj p.2 q)
noncomputable def negF (f:Fr):Fr:=(-f.1,f.2)
noncomputable def neg (p:Pq):Pq:=(p.1,negF p.2)
theorem qC (f:Fr):rv (negF f)= -rv f:=by
 unfold rv negF;simp only [Rat.intCast_neg];grind
open Classical in
theorem tK (t:Tr) (ps:List Pq):tot t (ps.map neg)= -tot t ps:=by
 induction ps with
 |nil=>simp only [zH,tot];grind
 |cons p r ih=>
  simp only [yG,tot,ih];show (if p.1=t then rv (negF p.2) else 0)+_=_;rw [qC];by_cases z:p.1=t
  . simp only [if_pos z];grind
  . simp only [if_neg z];grind
open Classical in
theorem i7 (t:Tr) {q:Fr} (hq:Sh q) {ps:List Pq} (h:∀p∈ps,Sh p.2):tot t (ps.map (scale q))=tot t ps*rv q:=by
 induction ps with
 |nil=>simp only [zH,tot];grind
 |cons p r ih=>
  simp only [yG,tot,ih fun x m=>h x (ym _ m)];show (if p.1=t then rv (gj p.2 q) else 0)+_=_;rw [jE (h p yn) hq];by_cases z:p.1=t
  . simp only [if_pos z];grind
  . simp only [if_neg z];grind
noncomputable def m1:Fr:=(-1,1)
noncomputable def p1:Fr:=(1,1)
end Su
namespace L2
theorem ne_int {a b:Int} (h:a=b):(!decide (V.int a=V.int b))=false:=by
 rw [h,decide_eq_true rfl];rfl
open PySem PySem.Spec PyProof.Rows
section
variable {X:Cx}
theorem gv:∀ {ys:List Str} {us:List Value},Vals (ys.map V.str) us->StrsAre us ys
 | [],_,r=>by cases r;exact .nil
 |y::ys,_,r=>by
  rw [yG] at r
  cases r with
  |cons r1 r2=>
   obtain ⟨t,rfl⟩:=r1;exact .cons y t (gv r2)
def xO (K:PySem.W.Frag):V->List V->Hp->VK->Prop:=fun x vs H Q=>∃(sep:Str) (l:Addr) (ys:List Str),x= .str sep/\vs= [.ref l]/\SqL K H l (ys.map V.str)/\(ys.map (·.length)).sum+ys.length*sep.length<=16777216/\Q (.str (Txt.join sep ys)) H
theorem ur:MtM X "str.join" (xO X.K):=by
 intro pins s σ H x vs v us Q I rx rv h;obtain ⟨sep,l,ys,rfl,rfl,hl,hz,q⟩:=h;obtain ⟨t,rfl⟩:=rx;obtain ⟨u,rfl,ru⟩:=rv.one;cases ru;obtain ⟨its,r,p,_⟩:=I.list hl;exact PyProof.Rows.join_list p.isList (by simpa using gv r) hz fun t' k=>⟨.str _,H,I.tok k,⟨_,rfl⟩,q⟩
end
end L2
namespace Dec
open PySem PySem.NumText L2 Mth
theorem len_app (x y:Str):(x++y).length=x.length+y.length:=by rw [<-cL,gZ,yI,cL,cL]
end Dec
namespace Tw
open PySem L2 Tre Wd Mth Dec Su
mutual
noncomputable def tmC:Tr->List Nat
 | .tup (_:: .str x::r)=>match r with
  | []=>cl x
  |t::_=>40::cl x++tmK t++ [41]
 |_=> []
noncomputable def tmK:Tr->List Nat
 | .tup ts=>tmsC ts
 |_=> []
noncomputable def tmsC:List Tr->List Nat
 | []=> []
 |t::ts=>32::tmC t++tmsC ts
end
theorem eD (k x:Str):tmC (.tup [.str k, .str x])=cl x:=by rw [tmC]
theorem dQ (k x:Str) (ts:List Tr):tmC (.tup [.str k, .str x, .tup ts])=40::cl x++tmsC ts++ [41]:=by rw [tmC,tmK]
noncomputable def spC (cs:List (List Nat)):List Nat:=(cs.map (32:: ·)).flatten
theorem eC:∀ts,tmsC ts=spC (ts.map tmC)
 | []=>by rw [tmsC];rfl
 |t::ts=>by
  rw [tmsC,eC ts];rfl
theorem tR (a b:List (List Nat)):spC (a++b)=spC a++spC b:=by
 unfold spC;rw [yK,List.flatten_append]
theorem m4 {B:Nat}:∀ {cs:List (List Nat)},(∀c∈cs,c.length<=B)->(spC cs).length<=cs.length*(B+1)
 | [],_=>yJ _
 |c::cs,h=>by
  have h1:=h c yn;have h2:=m4 fun d m=>h d (ym c m);have e:spC (c::cs)=(32::c)++spC cs:=rfl;rw [e,yI,yH,yH,Nat.succ_mul];omega
theorem xv:cl (Str.ofString " ")= [32]:=by decide +kernel
theorem xW:cl (Str.ofString "(")= [40]:=by decide +kernel
theorem xJ:cl (Str.ofString ")")= [41]:=by decide +kernel
theorem kg (y:Str) (ys:List Str):cl (Txt.join (Str.ofString " ") (y::ys))=cl y++spC (ys.map cl):=by
 have e:Txt.join (Str.ofString " ") (y::ys)=Str.join (Str.ofString " ") (y::ys):=StrLaws.glued_eq_join _ _;rw [e];clear e
 induction ys generalizing y with
 |nil=>
  show cl y=cl y++spC [];simp [spC]
 |cons z ys ih=>
  have e2:Str.join (Str.ofString " ") (y::z::ys)=y++Str.ofString " "++Str.join (Str.ofString " ") (z::ys):=rfl;rw [e2,gZ,gZ,xv,ih z];simp [spC]
theorem pE {B:Nat}:∀ {ys:List Str},(∀y∈ys,y.length<=B)->(ys.map (·.length)).sum<=ys.length*B
 | [],_=>yJ _
 |y::ys,h=>by
  have h1:=h y yn;have h2:=pE fun z m=>h z (ym y m);simp only [yG,List.sum_cons,yH];rw [Nat.succ_mul];omega
noncomputable def frC (p:Fr):List Nat:=txt p.1 p.2
structure Tb (t:Tr):Prop where
 ty:Ty .tm t
 dep:t.depth<=7
 len:(tmC t).length<=1000
structure Pb (p:Pq):Prop where
 tb:Tb p.1
 gf:Gf 200 p.2
noncomputable def prC (p:Pq):List (List Nat):= [frC p.2,tmC p.1]
noncomputable def hd (k:Str):List Nat:=40::cl k
inductive Wx:Nat->Tr->List Nat->Prop
 |fl (n:Nat) (x:Str):x.length<=8->Wx n (.tup [s_ "flag", .str x]) (cl x)
 |mo (n:Nat) (ps:List Pq) (f:Fr):ps.length<=3->(∀p∈ps,Pb p)->Gf 200 f->Wx n (.tup [s_ "most", .tup (ps.map prT),frT f]) (hd "most"++spC (ps.flatMap prC++ [frC f])++ [41])
 |li (n:Nat) (t u:Tr):Tb t->Tb u->Wx n (.tup [s_ "like",t,u]) (hd "like"++spC [tmC t,tmC u]++ [41])
 |no (n:Nat) (t:Tr) (c:List Nat):Wx n t c->Wx (n+1) (.tup [s_ "not",t]) (hd "not"++spC [c]++ [41])
 |bo (n:Nat) (l:List (Tr×List Nat)):l.length<=3->(∀p∈l,Wx n p.1 p.2)->Wx (n+1) (.tup [s_ "both", .tup (l.map (·.1))]) (hd "all"++spC (l.map (·.2))++ [41])
 |ei (n:Nat) (l:List (Tr×List Nat)):l.length<=3->(∀p∈l,Wx n p.1 p.2)->Wx (n+1) (.tup [s_ "either", .tup (l.map (·.1))]) (hd "any"++spC (l.map (·.2))++ [41])
open PySem PyProof.Rows L2 Tre Wd Mth Dec Su
inductive Wi:Nat->Str->Tr->List (List Nat)->Prop
 |mo (n:Nat) (ps:List Pq) (f:Fr):ps.length<=3->(∀p∈ps,Pb p)->Gf 200 f->Wi n "most" (.tup [s_ "most", .tup (ps.map prT),frT f]) (ps.flatMap prC++ [frC f])
 |li (n:Nat) (t u:Tr):Tb t->Tb u->Wi n "like" (.tup [s_ "like",t,u]) [tmC t,tmC u]
 |no (n:Nat) (t:Tr) (c:List Nat):Wx n t c->Wi (n+1) "not" (.tup [s_ "not",t]) [c]
 |bo (n:Nat) (l:List (Tr×List Nat)):l.length<=3->(∀p∈l,Wx n p.1 p.2)->Wi (n+1) "both" (.tup [s_ "both", .tup (l.map (·.1))]) (l.map (·.2))
 |ei (n:Nat) (l:List (Tr×List Nat)):l.length<=3->(∀p∈l,Wx n p.1 p.2)->Wi (n+1) "either" (.tup [s_ "either", .tup (l.map (·.1))]) (l.map (·.2))
def FwP (k k':Str):Prop:=(k= "not"/\k'= "not")\/(k= "both"/\k'= "all")\/(k= "either"/\k'= "any")\/(k= "like"/\k'= "like")\/(k= "most"/\k'= "most")
theorem Wx.inner {n:Nat} {t:Tr} {c:List Nat} (h:Wx n t c):(∃x:Str,t= .tup [s_ "flag", .str x]/\c=cl x/\x.length<=8)\/∃k k' cs,Wi n k t cs/\FwP k k'/\c=hd k'++spC cs++ [41]:=by
 cases h with
 |fl _ x h=>exact .inl ⟨x,rfl,rfl,h⟩
 |mo _ ps f h1 h2 h3=>exact .inr ⟨_,_,_, .mo n ps f h1 h2 h3, .inr (.inr (.inr (.inr ⟨rfl,rfl⟩))),rfl⟩
 |li _ t u h1 h2=>exact .inr ⟨_,_,_, .li n t u h1 h2, .inr (.inr (.inr (.inl ⟨rfl,rfl⟩))),rfl⟩
 |no m t c h=>exact .inr ⟨_,_,_, .no m t c h, .inl ⟨rfl,rfl⟩,rfl⟩
 |bo m l h1 h2=>exact .inr ⟨_,_,_, .bo m l h1 h2, .inr (.inl ⟨rfl,rfl⟩),rfl⟩
 |ei m l h1 h2=>exact .inr ⟨_,_,_, .ei m l h1 h2, .inr (.inr (.inl ⟨rfl,rfl⟩)),rfl⟩
section
variable {X:Cx} {D:Addr}
end
end Tw
namespace Trm
open PySem
inductive Tm where
 |nm (x:Str)
 |ap (f:Str) (ts:List Tm)
def Ltr (c:Nat):Prop:=97<=c/\c<=122
structure Nm (x:Str):Prop where
 pos:0 < x.length
 le:x.length<=8
 ltr:∀c∈x.cps.toList,Ltr c
mutual
noncomputable def Tm.depth:Tm->Nat
 | .nm _=>0
 | .ap _ ts=>Tms.depth ts+1
noncomputable def Tms.depth:List Tm->Nat
 | []=>0
 |t::ts=>max (Tm.depth t) (Tms.depth ts)
end
open PySem
noncomputable def cl (x:Str):List Nat:=x.cps.toList
theorem cl_inj {x y:Str} (h:cl x=cl y):x=y:=by
 cases x;cases y;simp only [Str.mk.injEq];exact Array.toList_inj.mp h
theorem cL (x:Str):(cl x).length=x.length:=by simp [cl,Str.length]
theorem nm_cl {x:Str} (h:Nm x):∃c l,cl x=c::l/\Ltr c:=by
 cases e:cl x with
 |nil=>
  have:=cL x;rw [e] at this;have:=h.pos;simp at*;omega
 |cons c l=>exact ⟨c,l,rfl,h.ltr c (by show c∈cl x;rw [e];exact yn)⟩
end Trm
namespace Tw
open PySem L2 Tre Wd Mth Dec Su
abbrev Nm:=Trm.Nm
abbrev Ltr:=Trm.Ltr
inductive Lt:Tr->Prop
 |nm (x:Str):Nm x->Lt (.tup [s_ "name", .str x])
 |ap (f:Str) (ts:List Tr):Nm f->0 < ts.length->(∀t∈ts,Lt t)->Lt (.tup [s_ "call", .str f, .tup ts])
def St (Q:Nat->Prop) (r:List Nat):Prop:=∀c l,r=c::l->¬Q c
theorem iU {Q:Nat->Prop}:∀ {x y r s:List Nat},(∀c∈x,Q c)->(∀c∈y,Q c)->St Q r->St Q s->x++r=y++s->x=y/\r=s
 | [],[],_,_,_,_,_,_,e=>⟨rfl,e⟩
 | [],b::y,r,s,_,hy,hr,_,e=>absurd (hy b yn) (hr b _ e)
 |a::x,[],r,s,hx,_,_,hs,e=>absurd (hx a yn) (hs a _ e.symm)
 |a::x,b::y,r,s,hx,hy,hr,hs,e=>by
  rw [z6,z6] at e;obtain ⟨e1,e2⟩:=List.cons.inj e;obtain ⟨q1,q2⟩:=iU (fun c m=>hx c (ym _ m)) (fun c m=>hy c (ym _ m)) hr hs e2;exact ⟨by rw [e1,q1],q2⟩
def En (r:List Nat):Prop:=∀c l,r=c::l->c=32\/c=41
theorem En.st {Q:Nat->Prop} {r:List Nat} (h:En r) (h1:¬Q 32) (h2:¬Q 41):St Q r:=fun c l e=>by
 rcases h c l e with rfl|rfl
 . exact h1
 . exact h2
theorem En.nil:En []:=fun c l e=>by cases e
theorem En.b (l:List Nat):En (32::l):=fun c m e=>by cases e;exact .inl rfl
theorem En.k (l:List Nat):En (41::l):=fun c m e=>by cases e;exact .inr rfl
theorem eZ (cs:List (List Nat)) (r:List Nat):En (spC cs++41::r):=by
 cases cs with
 |nil=>exact En.k r
 |cons c cs=>exact En.b _
theorem nl32:¬Ltr 32:=by unfold Ltr Trm.Ltr;omega
theorem nl41:¬Ltr 41:=by unfold Ltr Trm.Ltr;omega
theorem pK {α:Type} (c:α->List Nat) {Q:α->Prop}:∀ {ts us:List α} {r s:List Nat},(∀t∈ts,∀u,Q u->∀r s,En r->En s->c t++r=c u++s->t=u/\r=s)->(∀u∈us,Q u)->
 spC (ts.map c)++41::r=spC (us.map c)++41::s->ts=us/\r=s
 | [],[],r,s,_,_,e=>by
  simp only [spC,zH,List.flatten_nil,List.nil_append] at e;exact ⟨rfl,(List.cons.inj e).2⟩
 | [],u::us,r,s,_,_,e=>by
  have e':41::r=32::(c u++spC (us.map c)++41::s):=by simpa [spC] using e
  cases e'
 |t::ts,[],r,s,_,_,e=>by
  have e':32::(c t++spC (ts.map c)++41::r)=41::s:=by simpa [spC] using e
  cases e'
 |t::ts,u::us,r,s,ht,hu,e=>by
  have e':32::(c t++(spC (ts.map c)++41::r))=32::(c u++(spC (us.map c)++41::s)):=by simpa [spC] using e
  obtain ⟨e1,e2⟩:=ht t yn u (hu u yn) _ _ (eZ _ _) (eZ _ _) (List.cons.inj e').2;obtain ⟨e3,e4⟩:=pK c (fun t m=>ht t (ym _ m)) (fun u m=>hu u (ym _ m)) e2;exact ⟨by rw [e1,e3],e4⟩
theorem nm_cl {x:Str} (h:Nm x):∃c l,cl x=c::l/\Ltr c:=Trm.nm_cl h
theorem j3 {x:Str} (h:Nm x):∀c∈cl x,Ltr c:=h.ltr
theorem vB {t:Tr} (h:Lt t):∀(u:Tr),Lt u->∀(r s:List Nat),En r->En s->tmC t++r=tmC u++s->t=u/\r=s:=by
 induction h with
 |nm x hx=>
  intro u hu r s hr hs e
  cases hu with
  |nm y hy=>
   unfold s_ at e ⊢;rw [eD,eD] at e;obtain ⟨e1,e2⟩:=iU (j3 hx) (j3 hy) (hr.st nl32 nl41) (hs.st nl32 nl41) e;exact ⟨by rw [cl_inj e1],e2⟩
  |ap g us hg h0 hu=>
   unfold s_ at e;rw [eD,dQ] at e;obtain ⟨c,l,q,hc⟩:=nm_cl hx;rw [q,z6] at e;have:c=40:=(List.cons.inj e).1;subst this;unfold Ltr Trm.Ltr at hc;omega
 |ap f ts hf h0 ht ih=>
  intro u hu r s hr hs e
  cases hu with
  |nm y hy=>
   unfold s_ at e;rw [eD,dQ] at e;obtain ⟨c,l,q,hc⟩:=nm_cl hy;rw [q,z6] at e;have:40=c:=(List.cons.inj e).1;subst this;unfold Ltr Trm.Ltr at hc;omega
  |ap g us hg h0' hu=>
   unfold s_ at e ⊢;rw [dQ,dQ,eC,eC] at e;have e':cl f++(spC (ts.map tmC)++41::r)=cl g++(spC (us.map tmC)++41::s):=by simpa using e
   obtain ⟨e1,e2⟩:=iU (j3 hf) (j3 hg) ((eZ _ _).st nl32 nl41) ((eZ _ _).st nl32 nl41) e';obtain ⟨e3,e4⟩:=pK tmC ih hu e2;exact ⟨by rw [cl_inj e1,e3],e4⟩
theorem brk {k l:Str} {cs ds:List (List Nat)} {r s:List Nat} (hk:∀c∈cl k,Ltr c) (hl:∀c∈cl l,Ltr c) (e:(hd k++spC cs++ [41])++r=(hd l++spC ds++ [41])++s):k=l/\spC cs++41::r=spC ds++41::s:=by
 have e':cl k++(spC cs++41::r)=cl l++(spC ds++41::s):=by simpa [hd] using e
 obtain ⟨e1,e2⟩:=iU hk hl ((eZ _ _).st nl32 nl41) ((eZ _ _).st nl32 nl41) e';exact ⟨cl_inj e1,e2⟩
end Tw
namespace Fs
section
variable {α:Type}
end
end Fs
namespace Tw
open PySem L2 Tre Wd Mth Dec Su
end Tw
namespace Fm
open PySem L2 Tre Wd Mth Dec Su Tw
inductive Gt:Tr->Prop
 |nm (x:Str):Nm x->Gt (.tup [s_ "name", .str x])
 |ap (f:Str) (ts:List Tr):Nm f->0 < ts.length->ts.length<=3->(∀t∈ts,Gt t)->Gt (.tup [s_ "call", .str f, .tup ts])
theorem Gt.lt {t:Tr} (h:Gt t):Lt t:=by
 induction h with
 |nm x hx=>exact .nm x hx
 |ap f ts hf h0 h3 _ ih=>exact .ap f ts hf h0 ih
theorem Gt.ty {t:Tr} (h:Gt t):Ty .tm t:=by
 induction h with
 |nm x hx=>exact .nm x
 |ap f ts hf h0 h3 _ ih=>exact .ap f ts h3 ih
theorem Gt.inj {t u:Tr} (h:Gt t) (h':Gt u) (e:tmC t=tmC u):t=u:=(vB h.lt u h'.lt [] [] En.nil En.nil (by rw [e])).1
noncomputable def tk:Tr->List Tr
 | .tup [_,_, .tup ts]=>ts
 |_=> []
theorem xj (x:Str):tk (.tup [s_ "name", .str x])= []:=rfl
theorem xk (f:Str) (ts:List Tr):tk (.tup [s_ "call", .str f, .tup ts])=ts:=rfl
inductive Sb:Tr->Tr->Prop
 |refl (t:Tr):Sb t t
 |step {x u t:Tr}:u∈tk t->Sb x u->Sb x t
theorem Gt.tk {t u:Tr} (h:Gt t) (m:u∈tk t):Gt u/\u.depth < t.depth:=by
 cases h with
 |nm x hx=>rw [xj] at m;cases m
 |ap f ts hf h0 h3 hh=>
  rw [xk] at m;refine ⟨hh u m,?_⟩;have:=bg m;simp only [Tr.depth,Trs.depth];omega
theorem Sb.tk {x t y:Tr} (h:Sb x t) (m:y∈tk x):Sb y t:=by
 induction h with
 |refl=>exact .step m (.refl _)
 |step m' _ ih=>exact .step m' ih
def Clt (acc:List Tr):Prop:=∀x∈acc,∀y∈tk x,y∈acc
theorem Clt.sb {acc:List Tr} (c:Clt acc) {x t:Tr} (h:Sb x t):t∈acc->x∈acc:=by
 induction h with
 |refl=>exact fun m=>m
 |step m _ ih=>exact fun ha=>ih (c _ ha _ m)
theorem sub_len {α:Type}:∀ {l U:List α},l.Nodup->(∀x∈l,x∈U)->l.length<=U.length
 | [],U,_,_=>yJ _
 |x::l,U,h,hs=>by
  obtain ⟨h1,h2⟩:=zu.mp h;obtain ⟨a,b,rfl⟩:=List.append_of_mem (hs x yn)
  have:l.length<=(a++b).length:=sub_len h2 fun y my=>by
   have:=hs y (ym _ my);simp only [yN,yx] at this ⊢;rcases this with h|rfl|h
   . exact .inl h
   . exact absurd my h1
   . exact .inr h
  simp only [yI,yH] at this ⊢;omega
open Classical in
noncomputable def ix (us:List Tr) (t:Tr):Nat:=us.findIdx fun x=>decide (x=t)
open Classical in
theorem mV {us:List Tr} {t:Tr} (m:t∈us):us[ix us t]?=some t:=by
 unfold ix;have h:us.findIdx (fun x=>decide (x=t)) < us.length:=List.findIdx_lt_length_of_exists ⟨t,m,by simp⟩
 have:=List.findIdx_getElem (w:=h);rw [yj h];exact congrArg some (of_decide_eq_true this)
theorem xY {us:List Tr} {t:Tr} (m:t∈us):ix us t < us.length:=(yt.mp (mV m)).1
theorem rG {α:Type} {l:List α} (h:l.Nodup) {i j:Nat} {x:α} (h1:l[i]?=some x) (h2:l[j]?=some x):i=j:=by
 obtain ⟨hi,e1⟩:=yt.mp h1;obtain ⟨hj,e2⟩:=yt.mp h2;have n:=zz.mp h;rw [zd] at n;rcases Nat.lt_trichotomy i j with q|q|q
 . exact absurd (e1.trans e2.symm) (n i j hi hj q)
 . exact q
 . exact absurd (e2.trans e1.symm) (n j i hj hi q)
theorem ix_eq {us:List Tr} (nd:us.Nodup) {i:Nat} {t:Tr} (e:us[i]?=some t):ix us t=i:=rG nd (mV (yq e)) e
end Fm
namespace L2
open PySem PySem.Spec PyProof.Rows Zp
noncomputable def Ite (K:PySem.W.Frag) (a:Addr):It:=
 ⟨fun i H=>∃xs x,SqL K H a xs/\xs[i]?=some x,
  fun i H v H'=>∃T x,v= .ref T/\H T=none/\H'=upd H T (.tup [.int i,x])/\(∀xs,SqL K H a xs->xs[i]?=some x)/\i < sizeLine,
  fun i H=>∃xs,SqL K H a xs/\xs.length<=i⟩
theorem o8 {P:Program} {w:World} {K:PySem.W.Frag} {es:List Expr} {kk:Nat} {pos:Pos} (a e it:Addr) (hd:e≠it):
 Turn P w K (.Tuple es kk pos) (Ite K a) [e,it] e (fun i h=>(∃old,IsEnum h e it i old)/\h.IsListIter it a i/\a∉ [e,it]) where
 mem:=by simp
 obj:=fun i h ⟨⟨u,h1⟩,h2,_⟩ c hc=>by
  simp only [yx,yY,or_false] at hc;rcases hc with rfl|rfl
  . exact ⟨_,h1,fun v e=>by cases (show Data.fields _=Data.cell v from e)⟩
  . obtain ⟨o,e1,_,e3⟩:=h2;exact ⟨o,e1,fun v e=>by rw [e3] at e;cases e⟩
 keep:=fun i h h' ⟨⟨u,h1⟩,h2,h3⟩ kp=>⟨⟨u,kp e (by simp) _ h1⟩,h2.at fun o x=>kp it (by simp) o x,h3⟩
 item:=by
  intro X hP hw hK hc i pins s σ H E I hf ⟨⟨u0,h1⟩,h2,h6⟩ hg;subst hP hw hK;refine hZq fun q_ e_=> ?_;obtain ⟨xs,x,g1,g3⟩:=hg;obtain ⟨as,r1,p1,z1⟩:=I.list g1;obtain ⟨u,e1,q1⟩:=r1.get g3;subst e_;have p1:=p1.isList;simp only [yx,yY,or_false,not_or] at h6;refine wpAny_pyNext_enum_item h1 h2 p1 (x:=u) (by simpa using e1) hd fun h' a1 a3 a5 a6 up=>⟨_,rfl,?_⟩
  refine wpAny_letOwnedTupleGo_enum (s:= {s with heap:=h',toks:=s.toks+1}) a1 fun h'' b1 sb=> ?_;have fr:H s.heap.objs.size=none:=I.hok.fresh (yp _);have lt:∀ {c:Addr} {o:Obj},s.heap.get? c=some o->c≠s.heap.objs.size:=fun e=>yA (Heap.lt_size e)
  have all:∀c o,c∉ [e,it]->s.heap.get? c=some o->h''.get? c=some o:=fun c o n ee=>by
   simp only [yx,yY,or_false,not_or] at n;exact sb.extBut c o n.1 (up c o n.1 n.2 ee)
  have nz:s.heap.objs.size≠e:=(lt h1).symm;have pT:h''.get? s.heap.objs.size=some {cls:= .type "tuple",data:= .seq #[.int i s.toks,u]}:=sb.extBut _ _ nz a5
  have fp:∀b∈ [e,it],upd H s.heap.objs.size (.tup [.int i,x]) b=none:=fun c hc=>by
   have nc:c≠s.heap.objs.size:=by
    simp only [yx,yY,or_false] at hc;rcases hc with rfl|rfl
    . exact lt h1
    . obtain ⟨o,ee,_⟩:=h2;exact lt ee
   rw [ae nc];exact (hf c hc).1
  refine ⟨.ref s.heap.objs.size,upd H s.heap.objs.size (.tup [.int i,x]),?_,rfl,⟨_,x,rfl,fr,rfl,fun zs hz=> ?_,yL (yt.mp g3).1 z1⟩,⟨⟨u,by simpa using b1⟩,?_,?_⟩,fp⟩
  ·
   refine I.call' (s':= {s with heap:=h'',toks:=s.toks+1}) (ch:= [e,it]) rfl ⟨fun b o e _ _ hx=>all b o hx e,fun b o e _ _ hx=>⟨o.slots,all b o hx e⟩,fun c o e n _=>by rw [ae (lt e)];exact n,fun b o e hx=>⟨o,all b o hx e⟩,fun c zs e=>by rw [ae (aE e fr)];exact e,fun c o zs e=>by rw [ae (aE e fr)];exact e,fun c ps e=>⟨#[],by rw [ae (aE e fr),e];simp⟩⟩ ?_ I.bare fun b hb=> ?_
   . intro c o ee;by_cases hcT:c=s.heap.objs.size
     . subst hcT;rw [a8] at ee;cases ee;exact ⟨by show 2<=sizeLine;decide,[.int i s.toks,u], .cons ⟨_,rfl⟩ (.cons q1 .nil),⟨_,pT,rfl,_,rfl⟩⟩
     . rw [ae hcT] at ee;have nb:∀c u,H c=some u->c∉ [e,it]:=fun c u e hz=>by rw [(hf c hz).1] at e;cases e
       refine (I.hok c o ee).stay (fun d v hc q=>all d v ?_ q) (fun d q=> ?_) fun d m q=> ?_
       . rcases hc with hz|hz
         . rw [hz];exact nb c o ee
         . exact nb d _ hz
       . rw [ae (aE q fr)];exact q
       . rw [ae (aE q fr)];exact q
   . refine hZq fun q_ e_=> ?_;obtain ⟨g0,g1,g2,g3,g4,g5⟩:=hf b hb;subst e_;exact ⟨g3,g1,g4,g5⟩
  . rw [I.list_inj hz g1];exact g3
  . exact a3.extBut sb.extBut hd.symm
  . simpa using h6
 done:=by
  intro X hP hw hK hc i pins s σ H E I hf ⟨⟨u0,h1⟩,h2,h6⟩ hg;subst hP hw hK;refine hZq fun q_ e_=> ?_;obtain ⟨xs,g1,g3⟩:=hg;obtain ⟨as,r1,p1,z1⟩:=I.list g1;subst e_;have hl:=r1.length;refine wpAny_pyNext_enum_end (I.ok.hd hc) h1 h2 p1.isList (by simp;omega) fun h' up=>⟨rfl,I.turneds (t':=s.toks) (fun c o n ee=> ?_) hf⟩
  simp only [yx,yY,or_false,not_or] at n;exact up c o n.2 ee
 self:=fun _ _ _ _ _ st h=>by
  obtain ⟨⟨u,h1⟩,_⟩:=st;exact wpAny_pyIter_enum h1 h
section
variable {X:Cx}
def vi (K:PySem.W.Frag) (ta:TA):TI:=fun σ H R=>ta σ H fun vs H1=>∃a xs,vs= [.ref a]/\SqL K H1 a xs/\R (Ite K a) H1
theorem ud {es:List Expr} {kk:Nat} {pt:Pos} {x:Expr} {ta:TA} {p pos:Pos} (hg:Gl X "enumerate") (hm:X.mg "enumerate"=none) (ha:PA X [x] ta) (hs:starEach [x] X.env= [(false,eval x X.env)]:=by rfl):
 PI X (.Tuple es kk pt) (.Call (.Name "enumerate" p) [x] [] pos) (vi X.K ta):=by
 intro pins s σ H R I h;refine Call_ (fk I hg hm PyProof.Rows.boot_enumerate (PyProof.Rows.callWith_type1 (thn (ha pos pins s σ H _ I h) fun us s1 ⟨vs,H1,I1,r1,q1⟩=> ?_) (by rw [hs];rfl) rfl))
 obtain ⟨a,xs,e,k1,q⟩:=q1;subst e
 cases r1 with
 |cons r rr=>
  cases rr;cases r;obtain ⟨as,_,p1,_⟩:=I1.list k1;have p1:=p1.isList
  have lta:a < s1.heap.objs.size:=by
   obtain ⟨o,e,_⟩:=p1;exact Heap.lt_size e
  refine call_enumerate_list p1 fun h' h1 h2 sz up=> ?_;refine wpAny_pyIter_enum (s:= {s1 with heap:=h'}) h1 ?_;have na:∀j,a≠s1.heap.objs.size+j:=fun j=>yA (yL lta (zN ..))
  have le:∀c∈ [s1.heap.objs.size+1,s1.heap.objs.size+0],s1.heap.objs.size<=c:=fun c hc=>by
   simp only [yx,yY,or_false] at hc;rcases hc with rfl|rfl<;>exact zN ..
  refine ⟨s1.heap.objs.size+1,[s1.heap.objs.size+1,s1.heap.objs.size+0],_,_,H1,rfl,I1.kept (t':=s1.toks) up,o8 a _ _ (by simp),⟨⟨_,h1⟩,h2,?_⟩,fun c hc=>I1.fpOk (le c hc) (I1.hok.fresh (le c hc)),q⟩
  simp only [yx,yY,or_false,not_or];exact ⟨na 1,na 0⟩
end
end L2
namespace L2
section
open PySem
variable {prog:Program} {w:World} {A:Around} {R:Result->Shared->Prop} {s:Shared}
theorem fQ {kx vx target iter:Expr} {ifs:List Expr} {scope:Scope} {pos:Pos} {it:Value} {D:Addr} {env:Env} (I:Nat->Shared->Prop)
 (turn:∀n s,I n s->wpAny (model prog w) A (pyNext it) (fun r s₁=>match r with
  |none=>R (.ok .next) s₁
  |some v=>wpAny (model prog w) A (letOwnedTupleGo target it v) (fun _ s₁'=>wpAny (model prog w) A (assign target env v) (fun _ s₂=>
   wpAny (model prog w) A (forIn ifs true fun c r=>if r=true then do let ok<-isTrue c env (eval c env);pure (ForInStep.yield ok) else pure (ForInStep.yield r)) (fun ok s₃=>
    if ok=true then wpAny (model prog w) A (eval kx env) (fun kv s₄=>wpAny (model prog w) A (eval vx env) (fun vv s₅=>
     wpAny (model prog w) A (dictSet D kv vv) (fun _ s₆=>∃m,m < n/\I m s₆) (fun _ _=>False) s₅) (fun _ _=>False) s₄) (fun _ _=>False) s₃
    else∃m,m < n/\I m s₃) (fun _ _=>False) s₂) (fun _ _=>False) s₁') (fun _ _=>False) s₁) (fun _ _=>False) s)
 (n:Nat) (h:I n s):codeAny (model prog w) A (.compLoop (.DictComp kx vx [⟨target,iter,ifs,0⟩] scope pos) 0 it (.ref D) env) R s:=by
 refine codeAny_loop rfl I (fun n s hI=> ?_) n h;show wpAny _ A ((compTurn (.DictComp kx vx [⟨target,iter,ifs,0⟩] scope pos) 0 it (.ref D) env).onRaise (fun x=>do noteFrame x env;theTreesLotGoes x)) _ _ s
 refine wpAny_noted ?_;rw [compTurn_dict];refine wpAny_bind (wpAny_standAt (wpAny_bind (wpAny_mono (turn n s hI) (fun r s₁ h₁=> ?_) fun _ _ z=>z.elim)))
 cases r with
 |none=>exact wpAny_pure h₁
 |some v=>
  refine wpAny_bind (wpAny_mono h₁ (fun _ s₁' h₁'=> ?_) fun _ _ z=>z.elim);refine wpAny_bind (wpAny_mono h₁' (fun _ s₂ h₂=>wpAny_bind (wpAny_mono h₂ (fun ok s₃ h₃=> ?_) fun _ _ z=>z.elim)) fun _ _ z=>z.elim)
  cases ok with
  |false=>exact wpAny_pure ⟨rfl,h₃⟩
  |true=>
   exact wpAny_bind (wpAny_bind (wpAny_mono h₃ (fun kv s₄ h₄=>wpAny_bind (wpAny_holding (wpAny_mono h₄ (fun vv s₅ h₅=>wpAny_bind (wpAny_standAt (wpAny_holding (wpAny_mono h₅ (fun _ s₆ h₆=>wpAny_pure ⟨rfl,h₆⟩) fun _ _ z=>z.elim)))) fun _ _ z=>z.elim))) fun _ _ z=>z.elim))
end
open PySem PySem.Spec PyProof.Rows
def kE (mp:List (Option Nat)) (wi:TI) (g:TG) (tc:TT) (tk te:TE):TE:=fun σ H Q=>wi σ H fun J H1=>∀D,H1 D=none->
 ∃W:Nat->Nat->List (Key×V)->Hp->Prop,(∃m,W 0 m [] (upd H1 D (.dK [])))/\∀i m acc H2,W i m acc H2->
  (J.stop i H2/\Q (.ref D) H2)\/
  (J.go i H2/\∀x H3,J.yld i H2 x H3->g x (subS mp σ) H3 fun σ4 H4=>Ext (subS mp σ) σ4/\tc σ4 H4 fun b H5=>if b=true then tk σ4 H5 fun y H6=>∃k,y=kV k/\te σ4 H6 fun v H7=>H7 D=some (.dK acc)/\acc.length < sizeLine/\∃m',m' < m/\W (i+1) m' (putK acc k v) (upd H7 D (.dK (putK acc k v)))
   else∃m',m' < m/\W (i+1) m' acc H5)
section
variable {X:Cx} {pins:List (Addr×Obj)} {σ:St} {H:Hp} {s:Shared}
variable {kx vx target iter:Expr} {ifs:List Expr} {scope:Scope} {NC:List Str} {mp:List (Option Nat)} {pos:Pos} {wi:TI} {g:TG} {tc:TT} {tk te:TE}
theorem rh (hcalm:X.calm=true) (hi:PI X target iter wi) (hg:∀C s H fp pn,PG (XC X scope NC C s H fp pn) target g) (ht:∀C s H fp pn,PTs (XC X scope NC C s H fp pn) ifs tc) (hkx:∀C s H fp pn,PE (XC X scope NC C s H fp pn) kx tk) (he:∀C s H fp pn,PE (XC X scope NC C s H fp pn) vx te)
 (hl:mp.length=NC.length:=by rfl) (hm:gM X.N NC mp scope.names X.env.scope.names=true:=by rfl) (hc:bG scope.names X.env.cells=true:=by rfl) (hk:scope.kind= .function:=by rfl)
 (hnc:∀y∈scope.names,y.2≠ .cell:=by decide +kernel) (hnm:∀y∈scope.names,y.2= .local->scope.names.lookup y.1=some .local:=by decide +kernel) (hs:∀x,foldedSetIterable iter X.env x=pure x:=by intro _;rfl):
 PE X (.DictComp kx vx [⟨target,iter,ifs,0⟩] scope pos) (kE mp wi g tc tk te):=by
 intro pins s σ H Q I h;rw [arm_eval_DictComp];refine wpAny_comprehension_free (use:=none) rfl hs (ge hc) hk hnm (thn (hi pins s σ H _ I h) fun v s1 h1=>thn h1 fun itv s2 h2=> ?_);refine hZq fun q_ e_=> ?_;obtain ⟨it,fp,tn,J,H2,e,I2,T,st2,f2,W⟩:=h2;subst e_;subst e;refine wpAny_newObj_type ?_;have nD:H2 s2.heap.objs.size=none:=I2.hok.fresh (yp _)
 have I3:Inv X pins σ (upd H2 s2.heap.objs.size (.dK [])) {s2 with heap:=s2.heap.push {cls:= .type "dict",data:= .dict #[]}}:=
  I2.laid (t':=s2.toks) (fun b u e=>Heap.get?_push_of_some _ e) (yp _) (k7 s2.heap I2.big)
 obtain ⟨W,⟨m0,w0⟩,turn⟩:=W _ nD
 have lt2:∀b∈fp,b < s2.heap.objs.size:=fun b hb=>by
  obtain ⟨o,e,_⟩:=T.obj 0 _ st2 b hb;exact Heap.lt_size e
 have nDf:∀b∈fp,b≠s2.heap.objs.size:=fun b hb=>yA (lt2 b hb)
 have f3:∀b∈fp,FpOk X pins (upd H2 s2.heap.objs.size (.dK [])) b:=fun b hb=>by
  obtain ⟨g0,g1⟩:=f2 b hb;exact ⟨by rw [ae (nDf b hb)];exact g0,g1⟩
 have st3:tn 0 (s2.heap.push {cls:= .type "dict",data:= .dict #[]}):=T.keep 0 _ _ st2 fun b _ o e=>Heap.get?_push_of_some _ e
 have lt3:∀b∈fp,b < (s2.heap.push {cls:= .type "dict",data:= .dict #[]}).objs.size:=fun b hb=>by
  rw [Heap.size_push];exact zc (lt2 b hb)
 generalize hD:s2.heap.objs.size=D at*;generalize hs3:({s2 with heap:=s2.heap.push {cls:= .type "dict",data:= .dict #[]}}:Shared)=s3 at*;have hh3:s3.heap=s2.heap.push {cls:= .type "dict",data:= .dict #[]}:=by rw [<-hs3]
 rw [<-hh3] at st3 lt3;generalize hH3:upd H2 D (.dK [])=H3 at*;refine wpAny_newFunctionEnv (around:=some X.env) hnc (by intro y hy;cases hy) (fun h4 hn4 hsb4=> ?_) hk
 have kp4:∀b o,s3.heap.get? b=some o->h4.get? b=some o:=fun b o e=>hsb4.extBut b o (yA (Heap.lt_size e)) (Heap.get?_push_of_some _ e);have I4:=I3.block (tk:=s3.toks+([]:List (Str×Value)).length) f3 lt3 hk hnc hc hl hm kp4 hn4;have st4:tn 0 h4:=T.keep 0 _ _ st3 fun b _ o e=>kp4 b o e
 have fin:∀(s5:Shared) (σ5:St) (H5:Hp),Inv (XC X scope NC s3.heap.objs.size s3 H3 fp (X.pn++pins)) [] σ5 H5 s5->Q (.ref D) H5->compPost (model X.prog X.w) X.A X.xe none (EP X pins σ Q) (.ref D) s3.heap.objs.size (.ok .next) s5:=by
  intro s5 σ5 H5 I5 q5;obtain ⟨m5,hn5,_⟩:=id I5.loc;refine ⟨m5,hn5,fun h6 sb6=>⟨.ref D,H5,?_,rfl,q5⟩⟩;have kp6:∀b o,b≠s3.heap.objs.size->s5.heap.get? b=some o->h6.get? b=some o:=fun b o hb e=>sb6.extBut b o hb e;have nC:∀b o,s3.heap.get? b=some o->b≠s3.heap.objs.size:=fun b o e=>yA (Heap.lt_size e);have un:Un (frs X.stack) fp H3 H5 s3.heap s5.heap:=I5.base;have hfree:H5 s3.heap.objs.size=none:=I5.free;refine I3.call' (s':= {s5 with heap:=h6}) (ch:=fp) I5.os ⟨fun b o e n hb hx=>kp6 b o (nC b o e) (un.keep b o e n hb hx),fun b o e n hb hx=> ?_,un.free,fun b o e hx=> ?_,un.tups,un.frzs,un.tbls⟩ ?_ I5.bare (fun b hb=> ?_)
  . obtain ⟨sl,e1⟩:=un.slot b o e n hb hx;exact ⟨sl,kp6 b _ (nC b o e) e1⟩
  . obtain ⟨o',e1⟩:=un.there b o e hx;exact ⟨o',kp6 b o' (nC b o e) e1⟩
  . intro b o e;have nb:b≠s3.heap.objs.size:=fun z=>by rw [z,hfree] at e;cases e
    refine (I5.hok b o e).stay (fun c v hc' r=>kp6 c v ?_ r) (fun _ r=>r) fun _ _ r=>r;rcases hc' with z|z
    . rw [z];exact nb
    . intro y;rw [y,hfree] at z;cases z
  . refine hZq fun q_ e_=> ?_;obtain ⟨g0,g1,g2,g3,g4,g5⟩:=f3 b hb;subst e_;exact ⟨g3,g1,g4,g5⟩
 have loop:codeAny (model X.prog X.w) X.A (.compLoop (.DictComp kx vx [⟨target,iter,ifs,0⟩] scope pos) 0 (.ref it) (.ref D) (compEnvC scope (cg scope.names X.env.cells []) s3.heap.objs.size X.env)) (compPost (model X.prog X.w) X.A X.xe none (EP X pins σ Q) (.ref D) s3.heap.objs.size)
  {s3 with heap:=h4,toks:=s3.toks+([]:List (Str×Value)).length}:=by
  refine fQ (fun n s'=>∃i acc σ' H',Inv (XC X scope NC s3.heap.objs.size s3 H3 fp (X.pn++pins)) [] σ' H' s'/\Ext (subS mp σ) σ'/\tn i s'.heap/\(∀b∈fp,H' b=none)/\W i n acc H') ?_ m0
   ⟨0,[],subS mp σ,H3,I4,fun _ _ e=>e,st4,fun b hb=>(f3 b hb).1,w0⟩
  intro n s5 z_;refine hZq fun q_ e_=> ?_;obtain ⟨i,acc,σ5,H5,I5,hσ,st5,fr5,w5⟩:=z_;subst e_;have I5':Inv (XC X scope NC s3.heap.objs.size s3 H3 fp (X.pn++pins)) [] (subS mp σ) H5 s5:=I5.weak (by rw [I5.len];unfold subS;rw [yi];exact hl) hσ
  have fpk:∀ {H':Hp},(∀b∈fp,H' b=none)->∀b∈fp,FpOk (XC X scope NC s3.heap.objs.size s3 H3 fp (X.pn++pins)) [] H' b:=fun hn b hb=>by
   refine hZq fun q_ e_=> ?_;obtain ⟨g0,g1,g2,g3,g4,g5⟩:=f3 b hb;subst e_;refine ⟨hn b hb,yA (lt3 b hb),?_, .inl hb,(I4.ok.exf b hb).2,fun p hp=>g5 p (by simpa using hp)⟩
   exact I4.ok.exfs b hb
  rcases turn i n acc H5 w5 with ⟨stop,q⟩|⟨go,step⟩
  . refine thn (T.done (XC X scope NC s3.heap.objs.size s3 H3 fp (X.pn++pins)) rfl rfl rfl hcalm i [] s5 _ H5 (fun _ _=>False) I5' (fpk fr5) st5 stop) fun r s6 ⟨hr,I6⟩=> ?_;subst hr;exact fin s6 _ H5 I6 q
  . refine thn (T.item (XC X scope NC s3.heap.objs.size s3 H3 fp (X.pn++pins)) rfl rfl rfl hcalm i [] s5 _ H5 (fun _ _=>False) I5' (fpk fr5) st5 go) fun r s6 ⟨u,hr,h6⟩=> ?_;subst hr;refine thn h6 fun _ s7 ⟨x,H7,I7,r7,y7,st7,fr7⟩=> ?_;have I7':=I7.pinned (fpk fr7) (T.obj _ _ st7);refine thn (hg _ _ _ _ _ _ s7 _ H7 x u _ I7' r7 (step x H7 y7)) fun _ s8 ⟨σ8,H8,I8,ext8,q8⟩=> ?_;refine thn (ht _ _ _ _ _ _ s8 σ8 H8 _ I8 q8) fun ok s9 ⟨H9,I9,q9⟩=> ?_
    have again:∀ {σ':St} {H':Hp} {s':Shared} {acc':List (Key×V)} {m':Nat},Inv (XC X scope NC s3.heap.objs.size s3 H3 fp (X.pn++pins)) ([]++dw fp s7.heap) σ' H' s'->Ext (subS mp σ) σ'->m' < n->W (i+1) m' acc' H'->
     ∃m,m < n/\∃i acc σ' H',Inv (XC X scope NC s3.heap.objs.size s3 H3 fp (X.pn++pins)) [] σ' H' s'/\Ext (subS mp σ) σ'/\tn i s'.heap/\(∀b∈fp,H' b=none)/\W i m acc H':=by
     intro σ' H' s' acc' m' I' hσ' hm' w';refine ⟨m',hm',i+1,acc',σ',H',I'.unpinned,hσ',T.keep _ _ _ st7 fun b hb o e=>(I'.pin (b,o) (yB _ (yB _ (aX hb e)))).1,fun b hb=> ?_,w'⟩;obtain ⟨o,e,d⟩:=T.obj _ _ st7 b hb;exact (I'.pin (b,o) (yB _ (yB _ (aX hb e)))).2.1
    cases ok with
    |false=>
     rw [if_neg yE] at q9;rw [if_neg yE];obtain ⟨m',hm',w'⟩:=q9;exact again I9 ext8 hm' w'
    |true=>
     rw [if_pos rfl] at q9;rw [if_pos rfl];refine thn (hkx _ _ _ _ _ _ s9 σ8 H9 _ I9 q9) fun kv s10 ⟨y,H10,I10,r10,k,ek,qv⟩=> ?_;subst ek;refine thn (he _ _ _ _ _ _ s10 σ8 H10 _ I10 qv) fun v s11 ⟨z,H11,I11,r11,hD11,hz,m',hm',w'⟩=> ?_;refine hZq fun q_ e_=> ?_;obtain ⟨z1,hd1,vs1,rel1,dd1⟩:=nF I11.hok hD11;subst e_;have hz1:vs1.length<=sizeLine:=by rw [<-rel1.length];exact z1
     have hl1:(putK acc k z).length<=sizeLine:=by have:=fE acc k z;omega
     refine wpAny_dictSet_pairs (hsz:=hz1) (mU r10) dd1 fun h' dd' hs=> ?_;have he':∃q,h'.get? D=some q:=let ⟨q,_,_,hq,_⟩:=dd';⟨q,hq⟩;exact again (ga I11 (by rw [hD11];exact True.intro) hs he' (sJ hl1 hd1 (rel1.put k r11) dd')) ext8 hm' w'
 exact codeAny_compStart_dict loop (T.self _ 0 _ _ _ st4 loop)
end
end L2
namespace L2
section
open PySem
variable {prog:Program} {w:World} {A:Around} {R:Result->Shared->Prop} {s:Shared}
end
open PySem PySem.Spec PyProof.Rows
section
variable {X:Cx} {pins:List (Addr×Obj)} {σ:St} {H:Hp} {s:Shared}
variable {elt target iter t2 i2:Expr} {scope:Scope} {NC:List Str} {mp:List (Option Nat)} {pos:Pos} {wi:TI} {g:TG} {wi2:TI} {g2:TG} {te:TE}
end
end L2
namespace Dj
open PySem PySem.Spec PySem.W PyProof.Rows L2 Tre
def RawD (h:Heap) (d:Addr) (es:Array DictEntry) (ep:Nat):Prop:=∃o,h.get? d=some o/\o.ExactDict/\o.data= .dict es ep
theorem RawD.kp {h h':Heap} {d:Addr} {es:Array DictEntry} {ep:Nat} (x:RawD h d es ep) (e:∀o,h.get? d=some o->h'.get? d=some o):RawD h' d es ep:=by
 obtain ⟨o,h1,h2⟩:=x;exact ⟨o,e o h1,h2⟩
theorem RawD.lt {h:Heap} {d:Addr} {es:Array DictEntry} {ep:Nat} (x:RawD h d es ep):d < h.objs.size:=by
 obtain ⟨o,h1,_⟩:=x;exact Heap.lt_size h1
section
variable {prog:Program} {w:World} {A:Around} {E:Value->Shared->Prop} {s:Shared} {d it:Addr} {es:Array DictEntry} {ep:Nat}
theorem RawD.ty (x:RawD s.heap d es ep):s.TypeIs (.ref d) "dict":=by
 obtain ⟨o,h1,h2,_⟩:=x;exact ⟨o,h1,h2.1⟩
theorem qJ {Q:Value->Shared->Prop} (hd:(d==sysModules)=false) (hm:RawD s.heap d es ep)
 (hQ:Q (.ref s.heap.objs.size) {s with heap:=s.heap.push {cls:= .type "dict_keyiterator",data:= .fields #[.ref d, .int 0 0, .int es.size 0, .int ep 0]}}):wpAny (model prog w) A (pyIter (.ref d)) Q E s:=by
 have hT:=hm.ty;obtain ⟨o,ho,hc,hdat⟩:=hm;refine wpAny_pyIter_slot hT F.slot_dict_iter (wpAny_call_entry F.slot_dict_iter hT F.entry_dict_iter (A:=A) ?_ (F.args_dict_iter_1 _));unfold Builtin.«dict.__iter__»;refine wpAny_bind ?_;unfold Builtin.Dict.dictSlotNone;refine wpAny_bind (wpAny_notOrdered_dict hT ?_);show wpAny _ _ (pure (Value.ref d)) _ _ s;refine wpAny_pure ?_;show wpAny _ _ (Builtin.Dict.showsAll d >>=_) _ _ s;unfold Builtin.Dict.showsAll;rw [if_neg (by rw [hd];exact yE)];refine wpAny_bind (wpAny_pure ?_)
 refine wpAny_bind (wpAny_dictEntries ho hdat (wpAny_bind (wpAny_dictEpoch ho hdat ?_)));refine wpAny_bind (wpAny_newObj_type (wpAny_pure ⟨_,rfl,"dict_keyiterator",_,⟨_,Heap.get?_push_size _ rfl,rfl⟩,F.slot_dict_keyiterator_next.lookup,by simpa [rawInt] using hQ⟩))
theorem qI {i:Nat} {Q:Option Value->Shared->Prop} (hit:s.heap.IsKeyIter it d i es.size ep) (hm:RawD s.heap d es ep) (hi:i < es.size)
 (hQ:∀h',h'.IsKeyIter it d (i+1) es.size ep->Heap.SameBut it s.heap h'->Q (some es[i].key) {s with heap:=h'}):wpAny (model prog w) A (pyNext (.ref it)) Q E s:=by
 obtain ⟨o,ho,hc,hd⟩:=id hit;obtain ⟨od,hod,hcd,hdd⟩:=id hm;have hown:Builtin.Dict_items.ownsTuple "dict_keyiterator"=false:=by decide
 unfold pyNext;refine wpAny_bind (wpAny_attempt (wpAny_callSpecial?_slot (name:=Str.ofString "__next__") hit.typeIs F.slot_dict_keyiterator_next (wpAny_call_entry F.slot_dict_keyiterator_next hit.typeIs F.entry_dict_keyiterator_next ?_ (F.args_dict_keyiterator_next_1 _))));refine wpAny_bind (wpAny_pure (wpAny_bind (wpAny_bind ?_)))
 first|refine wpAny_bind (wpAny_typeNameOfWhole_keyiter hit.typeIs (wpAny_pure (wpAny_bind (wpAny_fieldsOf ho hd ?_))))|refine wpAny_bind (wpAny_typeNameOf_keyiter hit.typeIs (wpAny_pure (wpAny_bind (wpAny_fieldsOf ho hd ?_))))
 simp only [hown,zm,if_false];show wpAny _ _ (if (Value.ref d==Value.none)=true then _ else _) _ _ s;rw [if_neg (show¬((Value.ref d==Value.none)=true) from yE)];refine wpAny_bind (wpAny_pure (wpAny_bind (wpAny_dictEntries hod hdd ?_)));rw [if_neg (by simp)];refine wpAny_bind (wpAny_pure (wpAny_bind (wpAny_dictEpoch hod hdd ?_)));rw [if_neg (by simp)];refine wpAny_pure ?_
 simp only [show¬((i:Int) < 0) from by omega,if_false,zp,yV hi];refine wpAny_bind ?_
 first|refine wpAny_bind (wpAny_typeNameOfWhole_keyiter hit.typeIs (wpAny_pure (wpAny_bind (wpAny_isOneOf_keyiter hit.typeIs ?_))))|refine wpAny_bind (wpAny_typeNameOf_keyiter hit.typeIs (wpAny_pure (wpAny_bind (wpAny_isOneOf_keyiter hit.typeIs ?_))))
 show wpAny _ _ (setField (.ref it) 1 (rawInt ((i:Int)+1)) >>=_) _ _ s;refine wpAny_bind (wpAny_setField ho hd (by simp) ?_)
 have hit':(s.heap.update it (Obj.mapFields (·.setIfInBounds 1 (rawInt ((i:Int)+1))))).IsKeyIter it d (i+1) es.size ep:=⟨_,Heap.get?_update_self _ ho (Obj.isFreed_of_fields (Obj.data_mapFields hd _)),(Obj.cls_mapFields ..).trans hc,by rw [Obj.data_mapFields hd];simp [rawInt]⟩
 refine wpAny_bind (wpAny_holding (wpAny_bind (wpAny_isOneOf_keyiter (s:= {s with heap:=s.heap.update it (Obj.mapFields (·.setIfInBounds 1 (rawInt ((i:Int)+1))))}) hit'.typeIs ?_)));show wpAny _ _ (pure es[i].key) _ _ _;exact wpAny_pure (wpAny_pure ⟨_,rfl,wpAny_pure (hQ _ hit' (Heap.SameBut.update ..))⟩)
theorem u5 {i:Nat} {Q:Option Value->Shared->Prop} (hh:A.handled=none) (hit:s.heap.IsKeyIter it d i es.size ep) (hm:RawD s.heap d es ep) (hi:es.size<=i)
 (hQ:∀h',Heap.ExtBut it s.heap h'->Q none {s with heap:=h'}):wpAny (model prog w) A (pyNext (.ref it)) Q E s:=by
 obtain ⟨o,ho,hc,hd⟩:=id hit;obtain ⟨od,hod,hcd,hdd⟩:=id hm;have hown:Builtin.Dict_items.ownsTuple "dict_keyiterator"=false:=by decide
 unfold pyNext;refine wpAny_bind (wpAny_attempt (wpAny_callSpecial?_slot (name:=Str.ofString "__next__") hit.typeIs F.slot_dict_keyiterator_next (wpAny_call_entry F.slot_dict_keyiterator_next hit.typeIs F.entry_dict_keyiterator_next ?_ (F.args_dict_keyiterator_next_1 _))));refine wpAny_bind (wpAny_pure (wpAny_bind (wpAny_bind ?_)))
 first|refine wpAny_bind (wpAny_typeNameOfWhole_keyiter hit.typeIs (wpAny_pure (wpAny_bind (wpAny_fieldsOf ho hd ?_))))|refine wpAny_bind (wpAny_typeNameOf_keyiter hit.typeIs (wpAny_pure (wpAny_bind (wpAny_fieldsOf ho hd ?_))))
 simp only [hown,zm,if_false];show wpAny _ _ (if (Value.ref d==Value.none)=true then _ else _) _ _ s;rw [if_neg (show¬((Value.ref d==Value.none)=true) from yE)];refine wpAny_bind (wpAny_pure (wpAny_bind (wpAny_dictEntries hod hdd ?_)));rw [if_neg (by simp)];refine wpAny_bind (wpAny_pure (wpAny_bind (wpAny_dictEpoch hod hdd ?_)));rw [if_neg (by simp)];refine wpAny_pure ?_
 simp only [show¬((i:Int) < 0) from by omega,if_false,zp,Array.getElem?_eq_none hi];refine wpAny_bind ?_
 first|refine wpAny_bind (wpAny_typeNameOfWhole_keyiter hit.typeIs (wpAny_pure ?_))|refine wpAny_bind (wpAny_typeNameOf_keyiter hit.typeIs (wpAny_pure (A:=A.in1) ?_))
 show wpAny _ _ (setField (.ref it) 0 .none >>=_) _ _ s;refine wpAny_bind (wpAny_setField ho hd (by simp) ?_)
 show wpAny _ _ (newExc (.type "StopIteration") [] >>=_) _ _ _;refine wpAny_bind ?_;simp only [newExc,newTuple];refine wpAny_bind (wpAny_newObj_type (wpAny_bind (m:=firstArgMember _ _) (wpAny_of_eq (a:=Value.none) (by first|rfl|(simp only [firstArgMember];rfl)) (wpAny_newObj_type ?_ (by size_fits)))) (by size_fits))
 simp only [raiseNew];refine wpAny_bind (wpAny_handled ?_);rw [show A.in1.handled=none from hh];refine wpAny_bind (wpAny_pure (wpAny_throw ?_));refine wpAny_bind (wpAny_isInstance (T:="StopIteration") (b:=true) ⟨_,Heap.get?_push_size _ rfl,rfl⟩ isSubtype_stop ?_);exact wpAny_pure (hQ _ (((Heap.SameBut.update ..).extBut.push _).push _))
theorem oi (hh:A.handled=none) (I:Addr) (hne:d≠I):Walks prog w A I [I,d] [I] es.size (fun i v=>∃e,es[i]?=some e/\v=e.key) (fun i h=>h.IsKeyIter I d i es.size ep/\RawD h d es ep) where
 sub:=fun b hb=>by simp at hb;simp [hb]
 frame:=fun _ _ _ st hk=>⟨st.1.at fun o e=>hk I (by simp) o e,st.2.kp fun o e=>hk d (by simp) o e⟩
 item:=fun i s Q E hi st hQ=>by
  refine qI st.1 st.2 hi fun h' hit' hs'=> ?_;exact hQ _ h' s.toks ⟨es[i],by simp [hi],rfl⟩ ⟨hit',st.2.kp fun o e=>hs'.extBut d o hne e⟩ fun b o hb e=>hs'.extBut b o (fun h=>hb (by simp [h])) e
 done:=fun s Q E st hQ=>u5 hh st.1 st.2 (yp _) fun h' he'=>hQ h' s.toks fun b o hb e=>he' b o (fun h=>hb (by simp [h])) e
 self:=fun _ _ _ _ st hQ=>wpAny_pyIter_keyiter st.1 hQ
theorem u4 (lo:(d==sysModules)=false):KdlSrc prog w "dict" d d es.size (fun i v=>∃e,es[i]?=some e/\v=e.key) (fun h=>RawD h d es ep) where
 type:=fun _ hm=>hm.ty
 there:=fun _ hm=>⟨hm.lt,hm.lt⟩
 keep:=fun _ _ hm hk=>hm.kp fun o e=>hk d (.inl rfl) o e
 notList:=by decide
 notTuple:=by decide
 hint:=fun _ _ _ _ hm hq=>kdl_hint_dict hm.ty hq
 iter:=fun _ _ hh hm=>⟨_,_,(fun _ _ hq=>qJ lo hm hq),oi hh _ (yA hm.lt),⟨⟨_,Heap.get?_push_size _ rfl,rfl,rfl⟩,hm.kp fun o e=>Heap.get?_push_of_some _ e⟩⟩
end
open PySem PySem.Spec PySem.W PyProof.Rows L2 Tre Srt
section
variable {prog:Program} {w:World} {A:Around} {E:Value->Shared->Prop} {s:Shared} {T:String} {r d:Addr} {n:Nat} {P:Nat->Value->Prop} {OK:Heap->Prop}
theorem fU {Q:List Value->Shared->Prop} (K:KdlSrc prog w T r d n P OK) (hh:A.handled=none) (hok:OK s.heap) (hn:n<=sizeLine)
 (hQ:∀h' tk (acc:Array Value),(∀b o,s.heap.get? b=some o->h'.get? b=some o)->s.heap.objs.size < h'.objs.size->ItemsOf P acc n->Q acc.toList {s with heap:=h',toks:=tk}):wpAny (model prog w) A (collect (.ref r)) Q E s:=by
 have hlt:=K.there _ hok;unfold collect;refine wpAny_bind (wpAny_runValue (codeAny_builtin PySem.F.entry_proto_collect ?_));rw [Around.under_plainId PySem.F.plain_proto_collect _];show wpAny _ A.in1 (newList [] >>=fun l=>again (.builtin "list.__iadd__" ⟨[l, .ref r],[]⟩)) _ _ s;refine wpAny_bind (wpAny_newObj_type (wpAny_pure ⟨plainId_quiet PySem.F.plain_list_iadd _,codeAny_builtin PySem.F.entry_list_iadd ?_⟩));rw [Around.under_plainId PySem.F.plain_list_iadd _];have hS:(s.heap.push {cls:= .type "list",data:= .seq ([]:List Value).toArray}).get? s.heap.objs.size=some {cls:= .type "list",data:= .seq ([]:List Value).toArray}:=Heap.get?_push_size _ rfl;show wpAny _ A.in1 (Builtin.List.listExtendWith (.ref s.heap.objs.size) (.ref r) (.ref s.heap.objs.size)) _ _ _
 refine kdl_extend (R:=fun r' s'=>match r' with
  | .ok (.ret v)=>wpAny (model prog w) A (match v with
   | .ref a=>do match (<-load a).data with
    | .seq xs _=>pure xs.toList
    |_=>unsupported "internal:collect"
   |_=>unsupported "internal:collect") Q E s'
  | .ok _=>False
  | .error e=>E e s') (s:= {s with heap:=s.heap.push {cls:= .type "list",data:= .seq ([]:List Value).toArray}}) K hh (K.keep _ _ hok fun b _ o e=>Heap.get?_push_of_some _ e) _ (Nat.ne_of_gt hlt.1) (Nat.ne_of_gt hlt.2) _ _ hS (fun h' tk acc' c' hk hS' hacc=> ?_) hn
 show wpAny _ A (load s.heap.objs.size >>=_) _ _ _;refine wpAny_bind (wpAny_load hS' (wpAny_pure (hQ h' tk acc' (fun b o e=>hk b o (yA (Heap.lt_size e)) (Heap.get?_push_of_some _ e)) (Heap.lt_size hS') hacc)))
end
section
variable {prog:Program} {w:World} {A:Around} {E:Value->Shared->Prop} {s:Shared} {lt:Nat->Nat->Bool} {κ:SortKind}
theorem f7 {l:Addr} {vs:List Value} {Q:Value->Shared->Prop} (O:Ord lt) (h64:vs.length < 64)
 (hcol:∀Q':List Value->Shared->Prop,(∀h' tk,(∀b o,s.heap.get? b=some o->h'.get? b=some o)->s.heap.objs.size < h'.objs.size->Q' vs {s with heap:=h',toks:=tk})->wpAny (model prog w) A.in1 (collect (.ref l)) Q' E s)
 (hkind:2<=vs.length->∀h' tk,(∀b o,s.heap.get? b=some o->h'.get? b=some o)->∀(E':Value->Shared->Prop) (R:SortKind->Shared->Prop),R κ {s with heap:=h',toks:=tk}->wpAny (model prog w) A.in1.in1 (keyKind' vs.toArray) R E' {s with heap:=h',toks:=tk})
 (hask:∀h' tk,(∀b o,s.heap.get? b=some o->h'.get? b=some o)->∀i j (R:Bool->Shared->Prop),i < vs.length->j < vs.length->R (lt i j) {s with heap:=h',toks:=tk}->kas_ask prog w A.in1.in1 κ vs i j R {s with heap:=h',toks:=tk})
 (h:∀p:Array Nat,Pm vs.length p->Up lt p vs.length->∀h' tk D e,(∀b o,s.heap.get? b=some o->h'.get? b=some o)->s.heap.objs.size<=D->h'.get? D=some (seqObj "list" (List.toArray (p.toList.map fun i=>vs.getD i Value.none)) e)->Q (.ref D) {s with heap:=h',toks:=tk}):
 wpAny (model prog w) A (call (.builtin "sorted") [.ref l]) Q E s:=by
 refine Calls.call_function_entry kind_sorted plain_sorted entry_sorted (args_sorted1 _) ?_;unfold Builtin.«sorted»;refine wpAny_bind (m:=checkCount "sorted" 1 1 _) (wpAny_pure (wpAny_bind (hcol _ fun h1 tk k1 sz=> ?_)));refine wpAny_bind (wpAny_newList (s:= {s with heap:=h1,toks:=tk}) ?_ (by rw [sizeLine_eq];omega))
 have hoL:(h1.push (seqObj "list" vs.toArray 0)).get? h1.objs.size=some (seqObj "list" vs.toArray 0):=Heap.get?_push_size _ rfl;have keep:∀b o,s.heap.get? b=some o->(h1.push (seqObj "list" vs.toArray 0)).get? b=some o/\b≠h1.objs.size:=fun b o q=>⟨Heap.get?_push_of_some _ (k1 b o q),yA (Heap.lt_size (k1 b o q))⟩;show wpAny _ _ _ _ _ {s with heap:=h1.push (seqObj "list" vs.toArray 0),toks:=tk}
 refine wpAny_bind (wpAny_holding (wpAny_call_entry slot_list_sort ⟨_,hoL,rfl⟩ entry_list_sort (dU (s:= {s with heap:=h1.push (seqObj "list" vs.toArray 0),toks:=tk}) (lt:=lt) (κ:=κ) O hoL h64 (fun h2 h' st R hR=>hkind h2 h' tk (fun b o e=>st b o (keep b o e).2 (keep b o e).1) _ R hR)
  (fun h' st i j R hi hj hR=>hask h' tk (fun b o e=>st b o (keep b o e).2 (keep b o e).1) i j R hi hj hR) fun p a1 a2=>⟨_,rfl,?_⟩) (args_list_sort _)))
 obtain ⟨e,he⟩:=sortedHeap_at (out:=List.toArray (p.toList.map fun i=>vs.getD i Value.none)) hoL;refine wpAny_pure ⟨_,rfl,h p a1 a2 _ tk _ e (fun b o q=> ?_) (Nat.le_of_lt sz) he⟩;rw [sortedHeap_old (keep b o q).2 (Heap.lt_size (keep b o q).1)];exact (keep b o q).1
end
theorem jd {prog:Program} {w:World} {A:Around} {s:Shared} {fin:Bool} {Q:Bool->Shared->Prop}:∀ {as bs:List Value} {q:List (Bool×Bool)} {i:Nat},0 < i->bv A s as bs q->Q (lexV fin q) s->KatLex prog w A true fin Q (as.zip bs) i s
 | [],_,q,i,_,h,hq=>by
  unfold bv at h;subst h;rw [List.zip_nil_left];exact kat_nil hq
 |_::_,[],q,i,_,h,hq=>by
  unfold bv at h;subst h;rw [List.zip_nil_right];exact kat_nil hq
 |a::as,b::bs,[],i,_,h,hq=>h.elim
 |a::as,b::bs,(e,l)::q,i,h0,h,hq=>by
  obtain ⟨h1,h2,h3⟩:=h;rw [zj];refine kat_cons (h1 prog w _ _ ?_)
  cases e with
  |true=>exact kat_yes (jd (by omega) (h3 rfl) hq)
  |false=>
   refine kat_no ?_
   have e0:(true&&i==0)=false:=by
    cases i with
    |zero=>omega
    |succ i=>rfl
   rw [e0];exact kat_one a b (h2 rfl prog w _ _ hq)
theorem mQ {prog:Program} {w:World} {A:Around} {s:Shared} {fin:Bool} {Q:Bool->Shared->Prop} {x y:Str} {t u:Tok} {as bs:List Value} {q:List (Bool×Bool)} (h:bv A s as bs q)
 (hq:Q (lexV fin ((x==y,decide (x.cps.toList < y.cps.toList))::q)) s):KatLex prog w A true fin Q ((Value.str x t::as).zip (Value.str y u::bs)) 0 s:=by
 rw [zj];refine kat_cons (SeqAt.EqAt.str_str x t y u prog w _ _ ?_)
 cases e:(x==y) with
 |true=>
  rw [e] at hq;exact kat_yes (jd (by decide) h hq)
 |false=>
  rw [e] at hq;refine kat_no ?_;exact oneLt_str hq
def Hs (t:Tr):Prop:=∃x r,t= .tup (.str x::r)
section
variable {X:Cx} {pins:List (Addr×Obj)} {σ:L2.St} {H:Hp} {s:Shared}
theorem je (I:Inv X pins σ H s):∀ {vs:List V} {ts:List Tr} {as:List Value},TrsAt H vs ts->Vals vs as->(∀t∈ts,Hs t)->∃fs,KatTups s.heap as fs/\fs.length=as.length/\∀v∈fs,∃(x:Str) (t:Tok),v= .str x t
 |vs,[],as,h,r,_=>by
  unfold TrsAt at h;subst h;cases r;exact ⟨[], .nil,rfl,fun v m=>by cases m⟩
 |vs,t::ts,as,h,r,hh=>by
  obtain ⟨v,vr,rfl,h1,h2⟩:=h.inv
  cases r with
  |cons r1 r2=>
   obtain ⟨fs,f1,f2,f3⟩:=je I h2 r2 fun u m=>hh u (ym _ m);obtain ⟨x,rr,rfl⟩:=hh t yn;unfold TrAt at h1;obtain ⟨a,ws,rfl,g,k⟩:=h1;cases r1;obtain ⟨y,yr,rfl,k1,k2⟩:=k.inv;unfold TrAt at k1;subst k1;obtain ⟨bs,o,n,q1,ho,hc,hd⟩:=bJ I g
   cases q1 with
   |cons q1 q2=>
    obtain ⟨tk,rfl⟩:=q1;refine ⟨_,KatTups.cons ho hc hd rfl f1,by simp [f2],fun v m=> ?_⟩
    rcases yx.mp m with e|m
    . exact ⟨x,tk,e⟩
    . exact f3 v m
def jG (P:Program) (w:World) (K:PySem.W.Frag):List V->Hp->VK->Prop:=fun xs H Q=>∃(a:Addr) (kvs:List Ent) (ts:List Tr),xs= [.ref a]/\DJ P w K H a kvs/\TrsAt H (kvs.map fun e=>V.ref e.2.1) ts/\ts.length < 64/\(∀t∈ts,Hs t/\t.pure/\t.depth<=40)/\(∀t∈ts,∀u∈ts,Cm t u)/\
 ∀(D:Addr) (ws:List V) (us:List Tr),H D=none->us.Perm ts->TrsAt H ws us->(∀(i j:Nat) (t u:Tr),i<=j->us[i]?=some t->us[j]?=some u->ltT u t=false)->Q (.ref D) (upd H D (.lst ws))
theorem u3 {kvs:List Ent} {xs:List (List Tk.KT×Addr×Value)} (r:RE kvs xs):(kvs.map fun e=>V.ref e.2.1)=xs.map fun x=>V.ref x.2.1:=by
 induction r with
 |nil=>rfl
 |cons h _ ih=>rw [yG,yG,ih,h.2.1]
theorem nY (xs:List (List Tk.KT×Addr×Value)):Vals (xs.map fun x=>V.ref x.2.1) (xs.map fun x=>Value.ref x.2.1):=by
 induction xs with
 |nil=>exact .nil
 |cons x r ih=>exact .cons rfl ih
theorem jr (hc:X.calm=true) (hu:X.A.units+60 < cLine):ck X (.builtin "sorted") (jG X.prog X.w X.K):=by
 intro pins s σ H xs us Q I r h;refine hZq fun q_ e_=> ?_;obtain ⟨a,kvs,ts,rfl,dj,hT,hlen,hts,hcm,q⟩:=h;obtain ⟨u,rfl,ru⟩:=cM r;subst e_;cases ru;refine hZq fun q_ e_=> ?_;obtain ⟨z,hd,ws,rel,dd⟩:=fP I.hok I.kIn dj;obtain ⟨o,es,ep,ho,hx,hdat,hes,_⟩:=dd;rw [u3 rel] at hT;obtain ⟨as,eas⟩:∃as,as=ws.map fun x=>Value.ref x.2.1:=⟨_,rfl⟩;obtain ⟨vs,evs⟩:∃vs,vs=ws.map fun x=>V.ref x.2.1:=⟨_,rfl⟩;subst e_;have rv:Vals vs as:=by rw [eas,evs];exact nY ws
 rw [<-evs] at hT;have l1:=hT.len;have l2:=rv.length;have wl:ws.length=vs.length:=by rw [evs,yi]
 have esz:es.size=as.length:=by rw [<-yP,hes,yi,eas,yi]
 have O:Srt.Ord fun i j=>ltT (ts.getD i .non) (ts.getD j .non):=⟨fun a b h=>dz h,fun a b c h1 h2=>j5 h1 h2⟩
 have at_:∀i,i < as.length->∃t v a,ts.getD i .non=t/\t∈ts/\TrAt H v t/\RelV v a/\as.getD i Value.none=a:=fun i hi=>by
  have hi':i < ts.length:=by omega
  refine hZq fun q_ e_=> ?_;obtain ⟨v,e1,e2⟩:=hT.get (i:=i) (t:=ts[i]) (yj hi');obtain ⟨a,e3,e4⟩:=rv.get e1;subst e_;exact ⟨ts[i],v,a,by rw [yv,yj hi'];rfl,z5 hi',e2,e4,by rw [yv,e3];rfl⟩
 refine f7 (κ:=tuples' true) (vs:=as) O (by omega) (fun Q' hQ'=> ?_) (fun h2 h' tk kp E' R hR=> ?_) (fun h' tk kp i j R hi hj hR=> ?_) fun p hp hup h' tk D e kp sz he=> ?_
 . have h64:(64:Nat)<=sizeLine:=by decide +kernel
   refine fU (A:=X.A.in1) (u4 (es:=es) (ep:=ep) hd) (I.ok.hd hc) ⟨o,ho,hx,hdat⟩ (by omega) fun h' tk acc k1 sz hacc=> ?_
   have e:acc.toList=as:=by
    refine zQ fun j=> ?_;by_cases hj:j < es.size
    . have hj':j < acc.size:=by rw [hacc.1];exact hj
      refine hZq fun q_ e_=> ?_;obtain ⟨en,e1,e2⟩:=hacc.2 j acc[j] (by simp [hj'])
      have e3:es.toList[j]?=some en:=by rw [yQ];exact e1
      rw [hes,yo] at e3;obtain ⟨x,ex,rfl⟩:=yw.mp e3;subst e_;rw [eas,yo,ex,yQ,yV hj',e2];rfl
    . rw [zb (by rw [yP,hacc.1];omega),zb (by omega)]
   rw [e];exact hQ' h' tk k1 sz
 . have I':Inv X pins σ H {s with heap:=h',toks:=tk}:=I.kept (t':=tk) kp;obtain ⟨fs,k1,k2,k3⟩:=je I' hT rv fun t m=>(hts t m).1;refine kat_kind (T:=Value.type "str") k1 (by omega) (fun v m=> ?_) (by decide +kernel) ?_
   . obtain ⟨x,t,rfl⟩:=k3 v m;exact .now
   . rw [show (Value.type "str" !=Value.type "tuple")=true by decide +kernel]
     exact hR
 . have I':Inv X pins σ H {s with heap:=h',toks:=tk}:=I.kept (t':=tk) kp;refine hZq fun q_ e_=> ?_;obtain ⟨t,v,a,et,mt,ht,ra,ea⟩:=at_ i hi;obtain ⟨u,v',b,eu,mu,hu',rb,eb⟩:=at_ j hj;have hc':=hcm t mt u mu;obtain ⟨⟨x1,r1,rfl⟩,p1,d1⟩:=hts t mt;obtain ⟨⟨x2,r2,rfl⟩,p2,d2⟩:=hts u mu;unfold TrAt at ht hu';obtain ⟨x0,vs0,rfl,g0,g1⟩:=ht;obtain ⟨y0,ws0,rfl,g2,g3⟩:=hu';subst e_;cases ra;cases rb;refine hZq fun q_ e_=> ?_;obtain ⟨as0,o,n,q3,ho,hcl,hd'⟩:=bJ I' g0;obtain ⟨bs0,o',n',q4,ho',hcl',hd2⟩:=bJ I' g2;have z0:=g1.len;have z1:=g3.len;have z2:=q3.length;have z3:=q4.length;obtain ⟨y1,yr1,rfl,w1,w2⟩:=g1.inv;obtain ⟨y2,yr2,rfl,w3,w4⟩:=g3.inv;subst e_;unfold TrAt at w1 w3;subst w1 w3
   cases q3 with
   |cons q3 q3'=>
    cases q4 with
    |cons q4 q4'=>
     obtain ⟨tk1,rfl⟩:=q3;obtain ⟨tk2,rfl⟩:=q4;unfold Tr.depth at d1;unfold Trs.depth at d1;unfold Tr.pure at p1;unfold Trs.pure at p1;unfold kas_ask;rw [ea,eb];refine kat_lt (b:=true) ho hd' ho' hd2 ?_;rw [zo,zo];have hu1:X.A.in1.in1.units+40+1 < cLine:=by show X.A.units+1+1+40+1 < cLine;omega
     have e:∀q,lexV (decide ((Value.str x1 tk1::_).toArray.size < (Value.str x2 tk2::_).toArray.size)) ((x1==x2,decide (x1.cps.toList < x2.cps.toList))::q)=lexV (decide ((Tr.str x1::r1).length < (Tr.str x2::r2).length)) ((x1==x2,decide (x1.cps.toList < x2.cps.toList))::q):=fun q=>by
      rw [yu,yu,<-z2,<-z3,z0,z1]
     by_cases ex:(x1==x2)=true
     . unfold Cm at hc';unfold Cms at hc'
       have hc2:Cms r1 r2:=by
        rcases hc' with ⟨_,c⟩|⟨n,_⟩
        . exact c
        . unfold Tre.eqT at n;rw [ex] at n;cases n
       have hx':=e7 (A:=X.A.in1.in1) I' hu1 (fun d pp cc a1 a2 b1 b2=>eA I' 40 d pp cc a1 a2 b1 b2 hu1) (by omega) (.inl p1.2) hc2 w2 w4 q3' q4'
       refine mQ hx' ?_;rw [e]
       have e2:lexV (decide ((Tr.str x1::r1).length < (Tr.str x2::r2).length)) ((x1==x2,decide (x1.cps.toList < x2.cps.toList))::qs r1 r2)=ltT (ts.getD i .non) (ts.getD j .non):=by
        rw [et,eu];refine aN ?_;rw [ltT_iff];have el:decide ((Tr.str x1::r1).length < (Tr.str x2::r2).length)=decide (r1.length < r2.length):=by simp
        have e4:=(eF x1 x2).mp ex;simp only [lexV,ex,if_true,el,dg,Tre.code,Tre.codes,LtC,LtCs,e4];constructor
        . intro h;exact .inr ⟨trivial,h⟩
        . rintro (h|h)
          . exact absurd h (List.lt_irrefl _)
          . exact h.2
       rw [e2];exact hR
     . have exf:(x1==x2)=false:=by simpa using ex
       rw [zj];refine kat_cons (SeqAt.EqAt.str_str x1 tk1 x2 tk2 X.prog X.w _ _ ?_);rw [exf];refine kat_no ?_;refine oneLt_str ?_
       have e2:decide (x1.cps.toList < x2.cps.toList)=ltT (ts.getD i .non) (ts.getD j .non):=by
        rw [et,eu];refine aN ?_;rw [ltT_iff,decide_eq_true_iff];have ne:x1.cps.toList≠x2.cps.toList:=fun z=>ex ((eF x1 x2).mpr z);simp only [Tre.code,Tre.codes,LtC,LtCs,Co.str.injEq];constructor
        . intro h;exact .inl h
        . rintro (h|h)
          . exact h
          . exact absurd h.1 ne
       rw [e2];exact hR
 . have hin:∀i∈p.toList,i < ts.length:=fun i m=>by
    have:=yX.mp (List.Perm.mem_iff hp |>.mp m);omega
   refine ⟨.ref D,upd H D (.lst (p.toList.map fun i=>vs.getD i .non)),I.laid (t':=tk) kp sz ?_,rfl,?_⟩
   . refine ⟨?_,p.toList.map fun i=>as.getD i Value.none,e,Vals.map rv fun i m=>by have:=hin i m;omega,he⟩
     rw [yi,yP,hp.size];have:(64:Nat)<=sizeLine:=by decide +kernel
     omega
   . refine q _ _ (p.toList.map fun i=>ts.getD i .non) (I.hok.fresh sz) ?_ (TrsAt.map hT hin) fun i j t u hij e1 e2=> ?_
     . have:=List.Perm.map (fun i=>ts.getD i Tr.non) hp;rw [show as.length=ts.length by omega,cC] at this
       exact this
     . rw [yo] at e1 e2;refine hZq fun q_ e_=> ?_;obtain ⟨a,ea,rfl⟩:=yw.mp e1;obtain ⟨b,eb,rfl⟩:=yw.mp e2;subst e_
       have hj:j < as.length:=by
        have:=(yt.mp eb).1;rw [yP,hp.size] at this;exact this
       have:=hup i j hij hj;rw [c9,c9,<-yQ,<-yQ,ea,eb] at this;exact this
end
end Dj
namespace L2
open PySem PySem.Spec PyProof.Rows
section
variable {X:Cx}
def xM:V->List V->Hp->VK->Prop:=fun x vs H Q=>∃a kvs k v,x= .ref a/\vs= [kV k,v]/\H a=some (.dK kvs)/\kvs.length < sizeLine/\
 (∀z,valV kvs k=some z->Q z H)/\(valV kvs k=none->Q v (upd H a (.dK (kvs++ [(k,v)]))))
theorem i4:MtM X "dict.setdefault" xM:=by
 intro pins s σ H x vs u us Q I rx rv h;obtain ⟨a,kvs,k,v,rfl,rfl,hH,hz,h1,h2⟩:=h;cases rx;obtain ⟨u1,u2,rfl,r1,r2⟩:=rv.two;obtain ⟨z,hd,ws,rel,dd⟩:=nF I.hok hH
 refine call_meetsIn PySem.F.slot_dict_setdefault dd.typeIs PySem.F.entry_dict_setdefault (PySem.F.args_dict_setdefault_3 _ _ _) (kt_meets_setdefault (aJ X.prog X.w) a (mU r1) hd u2)
  ⟨ws,dd,by rw [<-rel.length];exact z,fun q hq=> ?_,fun hq h' dd' hs=> ?_⟩
 . have rk:=rel.val k;rw [hq] at rk
   cases e:valV kvs k with
   |none=>rw [e] at rk;exact rk.elim
   |some y=>rw [e] at rk;exact ⟨y,H,I.tok _,rk,h1 y e⟩
 . have rk:=rel.val k;rw [hq] at rk
   cases e:valV kvs k with
   |some y=>rw [e] at rk;exact rk.elim
   |none=>
    have he:∃q,h'.get? a=some q:=let ⟨q,_,_,hq,_⟩:=dd';⟨q,hq⟩;have hp:=rel.put k r2;rw [qR v e] at hp;exact ⟨v,_,ga I (by rw [hH];exact True.intro) hs he (sJ (by rw [yI,List.length_singleton];omega) hd hp dd'),r2,h2 e⟩
noncomputable def cX (v d:Addr):HO:= .ext fun h=>h.IsValuesView v d
theorem lT {P:Program} {w:World} {H:Hp} {h:Heap} {v d:Addr} (x:h.IsValuesView v d):ObjOk P w H h v (cX v d):=by
 obtain ⟨o,e,r⟩:=x;exact ⟨⟨o,e,r⟩,⟨_,e⟩,fun _ _ ⟨o',y,c⟩ k=>⟨o',k _ y,c⟩⟩
def u6:V->List V->Hp->VK->Prop:=fun x vs H Q=>∃a kvs,x= .ref a/\vs= []/\H a=some (.dK kvs)/\∀v,H v=none->Q (.ref v) (upd H v (cX v a))
theorem oq:MtM X "dict.values" u6:=by
 intro pins s σ H x vs u us Q I rx rv h;obtain ⟨a,kvs,rfl,rfl,hH,q⟩:=h;cases rx;cases rv.zero;obtain ⟨z,hd,ws,rel,dd⟩:=nF I.hok hH;refine call_meetsIn PySem.F.slot_dict_values dd.typeIs PySem.F.entry_dict_values (PySem.F.args_dict_values_1 _) (meets_dict_values (aJ X.prog X.w) a hd) ⟨⟨ws,dd⟩,?_⟩;exact ⟨.ref _,_,I.laid (t':=s.toks) (fun b ob e=>Heap.get?_push_of_some _ e) (yp _) (lT ⟨_,Heap.get?_push_size _ rfl,rfl,rfl⟩),rfl,q _ (I.hok.fresh (yp _))⟩
end
end L2
namespace Dj
open PySem PySem.Spec PySem.W PyProof.Rows L2 Tre Srt
section
variable {X:Cx} {pins:List (Addr×Obj)} {σ:L2.St} {H:Hp} {s:Shared}
def SrQ (H:Hp) (ts:List Tr) (Q:VK):Prop:=∀(D:Addr) (ws:List V) (us:List Tr),H D=none->us.Perm ts->TrsAt H ws us->(∀(i j:Nat) (t u:Tr),i<=j->us[i]?=some t->us[j]?=some u->ltT u t=false)->Q (.ref D) (upd H D (.lst ws))
theorem jD {Q:VK} {a:Addr} {as:List Value} {vs:List V} {ts:List Tr} (hu:X.A.units+60 < cLine) (I:Inv X pins σ H s) (rv:Vals vs as) (hT:TrsAt H vs ts) (hlen:ts.length < 64) (hts:∀t∈ts,Hs t/\t.pure/\t.depth<=40) (hcm:∀t∈ts,∀u∈ts,Cm t u)
 (hcol:∀(E:Value->Shared->Prop) (Q':List Value->Shared->Prop),(∀h' tk,(∀b o,s.heap.get? b=some o->h'.get? b=some o)->s.heap.objs.size < h'.objs.size->Q' as {s with heap:=h',toks:=tk})->wpAny (model X.prog X.w) X.A.in1 (collect (.ref a)) Q' E s)
 (q:SrQ H ts Q):wpAny (model X.prog X.w) X.A (call (.builtin "sorted") [.ref a]) (EP X pins σ Q) X.xe s:=by
 have l1:=hT.len;have l2:=rv.length;have O:Srt.Ord fun i j=>ltT (ts.getD i .non) (ts.getD j .non):=⟨fun a b h=>dz h,fun a b c h1 h2=>j5 h1 h2⟩
 have at_:∀i,i < as.length->∃t v a,ts.getD i .non=t/\t∈ts/\TrAt H v t/\RelV v a/\as.getD i Value.none=a:=fun i hi=>by
  have hi':i < ts.length:=by omega
  refine hZq fun q_ e_=> ?_;obtain ⟨v,e1,e2⟩:=hT.get (i:=i) (t:=ts[i]) (yj hi');obtain ⟨a,e3,e4⟩:=rv.get e1;subst e_;exact ⟨ts[i],v,a,by rw [yv,yj hi'];rfl,z5 hi',e2,e4,by rw [yv,e3];rfl⟩
 refine f7 (κ:=tuples' true) (vs:=as) O (by omega) (fun Q' hQ'=> ?_) (fun h2 h' tk kp E' R hR=> ?_) (fun h' tk kp i j R hi hj hR=> ?_) fun p hp hup h' tk D e kp sz he=> ?_
 . exact hcol _ Q' hQ'
 . have I':Inv X pins σ H {s with heap:=h',toks:=tk}:=I.kept (t':=tk) kp;obtain ⟨fs,k1,k2,k3⟩:=je I' hT rv fun t m=>(hts t m).1;refine kat_kind (T:=Value.type "str") k1 (by omega) (fun v m=> ?_) (by decide +kernel) ?_
   . obtain ⟨x,t,rfl⟩:=k3 v m;exact .now
   . rw [show (Value.type "str" !=Value.type "tuple")=true by decide +kernel]
     exact hR
 . have I':Inv X pins σ H {s with heap:=h',toks:=tk}:=I.kept (t':=tk) kp;refine hZq fun q_ e_=> ?_;obtain ⟨t,v,a,et,mt,ht,ra,ea⟩:=at_ i hi;obtain ⟨u,v',b,eu,mu,hu',rb,eb⟩:=at_ j hj;have hc':=hcm t mt u mu;obtain ⟨⟨x1,r1,rfl⟩,p1,d1⟩:=hts t mt;obtain ⟨⟨x2,r2,rfl⟩,p2,d2⟩:=hts u mu;unfold TrAt at ht hu';obtain ⟨x0,vs0,rfl,g0,g1⟩:=ht;obtain ⟨y0,ws0,rfl,g2,g3⟩:=hu';subst e_;cases ra;cases rb;refine hZq fun q_ e_=> ?_;obtain ⟨as0,o,n,q3,ho,hcl,hd'⟩:=bJ I' g0;obtain ⟨bs0,o',n',q4,ho',hcl',hd2⟩:=bJ I' g2;have z0:=g1.len;have z1:=g3.len;have z2:=q3.length;have z3:=q4.length;obtain ⟨y1,yr1,rfl,w1,w2⟩:=g1.inv;obtain ⟨y2,yr2,rfl,w3,w4⟩:=g3.inv;subst e_;unfold TrAt at w1 w3;subst w1 w3
   cases q3 with
   |cons q3 q3'=>
    cases q4 with
    |cons q4 q4'=>
     obtain ⟨tk1,rfl⟩:=q3;obtain ⟨tk2,rfl⟩:=q4;unfold Tr.depth at d1;unfold Trs.depth at d1;unfold Tr.pure at p1;unfold Trs.pure at p1;unfold kas_ask;rw [ea,eb];refine kat_lt (b:=true) ho hd' ho' hd2 ?_;rw [zo,zo];have hu1:X.A.in1.in1.units+40+1 < cLine:=by show X.A.units+1+1+40+1 < cLine;omega
     have e:∀q,lexV (decide ((Value.str x1 tk1::_).toArray.size < (Value.str x2 tk2::_).toArray.size)) ((x1==x2,decide (x1.cps.toList < x2.cps.toList))::q)=lexV (decide ((Tr.str x1::r1).length < (Tr.str x2::r2).length)) ((x1==x2,decide (x1.cps.toList < x2.cps.toList))::q):=fun q=>by
      rw [yu,yu,<-z2,<-z3,z0,z1]
     by_cases ex:(x1==x2)=true
     . unfold Cm at hc';unfold Cms at hc'
       have hc2:Cms r1 r2:=by
        rcases hc' with ⟨_,c⟩|⟨n,_⟩
        . exact c
        . unfold Tre.eqT at n;rw [ex] at n;cases n
       have hx':=e7 (A:=X.A.in1.in1) I' hu1 (fun d pp cc a1 a2 b1 b2=>eA I' 40 d pp cc a1 a2 b1 b2 hu1) (by omega) (.inl p1.2) hc2 w2 w4 q3' q4'
       refine mQ hx' ?_;rw [e]
       have e2:lexV (decide ((Tr.str x1::r1).length < (Tr.str x2::r2).length)) ((x1==x2,decide (x1.cps.toList < x2.cps.toList))::qs r1 r2)=ltT (ts.getD i .non) (ts.getD j .non):=by
        rw [et,eu];refine aN ?_;rw [ltT_iff];have el:decide ((Tr.str x1::r1).length < (Tr.str x2::r2).length)=decide (r1.length < r2.length):=by simp
        have e4:=(eF x1 x2).mp ex;simp only [lexV,ex,if_true,el,dg,Tre.code,Tre.codes,LtC,LtCs,e4];constructor
        . intro h;exact .inr ⟨trivial,h⟩
        . rintro (h|h)
          . exact absurd h (List.lt_irrefl _)
          . exact h.2
       rw [e2];exact hR
     . have exf:(x1==x2)=false:=by simpa using ex
       rw [zj];refine kat_cons (SeqAt.EqAt.str_str x1 tk1 x2 tk2 X.prog X.w _ _ ?_);rw [exf];refine kat_no ?_;refine oneLt_str ?_
       have e2:decide (x1.cps.toList < x2.cps.toList)=ltT (ts.getD i .non) (ts.getD j .non):=by
        rw [et,eu];refine aN ?_;rw [ltT_iff,decide_eq_true_iff];have ne:x1.cps.toList≠x2.cps.toList:=fun z=>ex ((eF x1 x2).mpr z);simp only [Tre.code,Tre.codes,LtC,LtCs,Co.str.injEq];constructor
        . intro h;exact .inl h
        . rintro (h|h)
          . exact h
          . exact absurd h.1 ne
       rw [e2];exact hR
 . have hin:∀i∈p.toList,i < ts.length:=fun i m=>by
    have:=yX.mp (List.Perm.mem_iff hp |>.mp m);omega
   refine ⟨.ref D,upd H D (.lst (p.toList.map fun i=>vs.getD i .non)),I.laid (t':=tk) kp sz ?_,rfl,?_⟩
   . refine ⟨?_,p.toList.map fun i=>as.getD i Value.none,e,Vals.map rv fun i m=>by have:=hin i m;omega,he⟩
     rw [yi,yP,hp.size];have:(64:Nat)<=sizeLine:=by decide +kernel
     omega
   . refine q _ _ (p.toList.map fun i=>ts.getD i .non) (I.hok.fresh sz) ?_ (TrsAt.map hT hin) fun i j t u hij e1 e2=> ?_
     . have:=List.Perm.map (fun i=>ts.getD i Tr.non) hp;rw [show as.length=ts.length by omega,cC] at this
       exact this
     . rw [yo] at e1 e2;refine hZq fun q_ e_=> ?_;obtain ⟨a,ea,rfl⟩:=yw.mp e1;obtain ⟨b,eb,rfl⟩:=yw.mp e2;subst e_
       have hj:j < as.length:=by
        have:=(yt.mp eb).1;rw [yP,hp.size] at this;exact this
       have:=hup i j hij hj;rw [c9,c9,<-yQ,<-yQ,ea,eb] at this;exact this
def qL:List V->Hp->VK->Prop:=fun xs H Q=>∃(v a:Addr) (kvs:List (Key×V)) (ts:List Tr),xs= [.ref v]/\H v=some (cX v a)/\H a=some (.dK kvs)/\TrsAt H (kvs.map (·.2)) ts/\ts.length < 64/\(∀t∈ts,Hs t/\t.pure/\t.depth<=40)/\(∀t∈ts,∀u∈ts,Cm t u)/\SrQ H ts Q
theorem call_sortedV (hc:X.calm=true) (hu:X.A.units+60 < cLine):ck X (.builtin "sorted") qL:=by
 intro pins s σ H xs us Q I r h;obtain ⟨v,a,kvs,ts,rfl,hv,hH,hT,hlen,hts,hcm,q⟩:=h;obtain ⟨u,rfl,ru⟩:=cM r;cases ru;obtain ⟨z,hd,ws,rel,dd⟩:=nF I.hok hH;obtain ⟨hview,_⟩:=(show ObjOk X.prog X.w H s.heap v (cX v a) from I.hok v _ hv);obtain ⟨ep,hat⟩:=dd.dictAt
 have rr:Vals (kvs.map (·.2)) (ws.map (·.2)):=by
  clear hat dd z q hH hT
  induction rel with
  |nil=>exact .nil
  |cons r1 _ ih=>exact .cons r1.2 ih
 refine jD hu I rr hT hlen hts hcm (fun E Q' hQ'=> ?_) q;refine fU (A:=X.A.in1) (PySem.W.kdl_values (knd:=aJ X.prog X.w) (kvs:=ws) (ep:=ep)) (I.ok.hd hc) ⟨hview,hat⟩ (by rw [<-rel.length];exact z) fun h' tk acc k1 sz hacc=> ?_
 have e:acc.toList=ws.map (·.2):=PySem.W.kdl_vals_eq acc.toList (by rw [yP];exact hacc.1) fun j x ex=>hacc.2 j x (by rw [<-yQ];exact ex)
 rw [e];exact hQ' h' tk k1 sz
end
end Dj
namespace Dj
open PySem PySem.Spec PySem.W PyProof.Rows L2
section
variable {prog:Program} {w:World} {K:Type} [DecidableEq K] {knd:HeapKind prog w K} {A:Around} {E:Value->Shared->Prop} {s:Shared}
end
section
variable {X:Cx} {o e f:Expr} {apos cpos:Pos} {td ty tx:TE}
end
end Dj
namespace L2
open PySem PySem.Spec PyProof.Rows
section
variable {prog:Program} {w:World} {A:Around} {R:Result->Shared->Prop} {it S:Addr} {fp wr:List Addr} {n:Nat} {P:Nat->Value->Prop} {St:Nat->Heap->Prop} {kw:List (Str×Value)}
end
section
variable {X:Cx}
end
open PySem PySem.Spec PyProof.Rows
section
variable {X:Cx} {CX:CXT} {k i:Nat} {f:Addr} {fd:FuncData} {ps:List Str} {sp:Sp} {x y:Str} {p py pos epos:Pos} {e:Expr} {es:List Expr} {t:TA}
end
section
variable {X:Cx} {pins:List (Addr×Obj)} {σ σ':St} {H:Hp} {s:Shared} {h9:Heap} {tk:Nat}
end
section
variable {X:Cx} {body suite:List Stmt} {b0:Stmt} {tb:TSX} {ts:TS} {i:Nat} {n cx:Str} {np hpos pos:Pos} {W:Addr}
end
section
variable {X:Cx} {k:Nat} {f a:Addr} {fd:FuncData} {ps:List Str} {sp:Sp} {E:XK} {x:Str} {p pos:Pos} {e:Expr} {es:List Expr} {t:TA}
end
open PySem PySem.Spec PyProof.Rows
theorem qV {X:Cx} {b:List Stmt}:PSs X b (fun _ _ _=>False):=fun _ _ _ _ _ _ h=>h.elim
end L2
namespace K45
open PySem L2 Mth
noncomputable def top (i:Nat):Stmt:=PySem.Challenge.pw_smallword_k45_many_bounds.main.body.getD i (.Pass ⟨0,0,0,0⟩)
noncomputable abbrev sCd:Stmt:=top 4
noncomputable abbrev sFr:Stmt:=top 5
noncomputable abbrev sBr:Stmt:=top 7
noncomputable abbrev sSt:Stmt:=top 8
noncomputable abbrev ie:Stmt:=uB (top 10) 0
noncomputable abbrev sTof:Stmt:=top 11
noncomputable abbrev sSet:Stmt:=top 12
noncomputable abbrev sTmo:Stmt:=top 13
noncomputable abbrev sShi:Stmt:=top 14
noncomputable abbrev sSco:Stmt:=top 15
noncomputable abbrev sWho:Stmt:=top 16
noncomputable abbrev sCto:Stmt:=top 17
noncomputable abbrev sIsl:Stmt:=top 18
noncomputable abbrev sSll:Stmt:=top 19
noncomputable abbrev sTur:Stmt:=top 20
noncomputable abbrev sTud:Stmt:=top 21
noncomputable abbrev sLby:Stmt:=top 22
noncomputable abbrev sRef:Stmt:=top 23
noncomputable abbrev sWag:Stmt:=top 24
noncomputable abbrev sHco:Stmt:=top 25
noncomputable abbrev sWby:Stmt:=top 26
noncomputable abbrev sLio:Stmt:=top 27
noncomputable abbrev sStr:Stmt:=top 28
noncomputable abbrev sTli:Stmt:=top 29
noncomputable abbrev sNua:Stmt:=top 30
noncomputable abbrev sWgd:Stmt:=top 32
noncomputable abbrev qA:Stmt:=top 34
noncomputable abbrev qw:Stmt:=top 35
noncomputable abbrev kU:Stmt:=top 36
noncomputable abbrev iS:Stmt:=top 37
noncomputable abbrev qu:Stmt:=top 38
noncomputable abbrev gC:Stmt:=top 39
noncomputable abbrev gB:Stmt:=top 40
noncomputable abbrev qz:Stmt:=top 41
noncomputable abbrev sLaw:Stmt:=top 42
theorem aa {H:Hp} {p:Addr} {o:HO} (h:H p=none):Same H (upd H p o):=fun b u e=>by
 rw [ae (aE e h)];exact e
theorem aF {H H':Hp} {D:Addr} {o:HO} (h:H D=none) (s:Same H H'):Same H (upd H' D o):=fun b u e=>by
 rw [ae (aE e h)];exact s b u e
section
variable {P:Program} {w:World} {K:PySem.W.Frag} {mg:Str->Option Value} {base:Heap} {T0:Addr}
structure Blt (mg:Str->Option Value):Prop where
 ab:mg "abs"=none
 le:mg "len"=none
 ra:mg "range"=none
 isi:mg "isinstance"=none
 tu:mg "tuple"=none
 it:mg "int"=none
 bo:mg "bool"=none
 li:mg "list"=none
 st:mg "str"=none
 al:mg "all"=none
 an:mg "any"=none
 su:mg "sum"=none
 zi:mg "zip"=none
 so:mg "sorted"=none
 ve:mg "ValueError"=none
 re:mg "repr"=none
 en:mg "enumerate"=none
 ma:mg "max"=none
 mi:mg "min"=none
def spCd:Sp:=fun vs H Q _=>∃(a b:Int),vs= [.int a, .int b]/\Q (.int (Int.gcd a b:Int)) H
theorem scC:FnScope ["one","other"] ["one","other"] (af sCd):= .of
theorem uN (a:Int):(if a < 0 then -a else a)=(Int.gcd a 0:Int):=by
 rw [Int.gcd_zero_right];split<;>omega
theorem rA {f:Addr} {fd:FuncData} (F:Fun K "common_divisor" "common_divisor" sCd f fd) (B:Blt mg):FnOk P w K mg base CX0 1 f fd ["one","other"] spCd:=by
 refine F.ok scC (fun vs H Q E h=> ?_) (fun cdv A outer s H vs Q E hr h=> ?_)
 . obtain ⟨a,b,rfl,_⟩:=h;rfl
 . obtain ⟨a,b,rfl,k⟩:=h
   refine ⟨_,ac (jH PassesOwn.never (aG jJ (pv 1) ad (aA _)) (ah (vS (i:=0) (j:=1) rfl scC.nd rfl rfl (by decide) rfl rfl (a0 (pv 1) (a0 (ak ug (pv 0) (pv 1)) a9)) rfl)))
    (ah (az (av km rfl B.ab ko (a0 (pv 0) a9)))),?_⟩
   refine oN (fun σ H'=>H'=H/\∃x y:Int,σ= [some (.int x),some (.int y)]/\Int.gcd x y=Int.gcd a b) (fun σ _=>match σ with| [_,some (.int y)]=>y.natAbs|_=>0) ⟨rfl,a,b,rfl,rfl⟩ ?_ ?_
   . intro σ H' z_;refine hZq fun q_ e_=> ?_;obtain ⟨rfl,x,y,rfl,e⟩:=z_;subst e_;refine ⟨_,rfl,rfl,_,rfl,?_⟩;by_cases z:y=0
     . subst z;rw [decide_eq_true rfl];refine iteF ?_;refine ⟨_,rfl,x,rfl,?_⟩;rw [uN,e];exact k
     . have z':¬(V.int y=V.int 0):=fun q=>z (V.int.inj q);rw [decide_eq_false z'];refine iteT ?_;refine ⟨_,rfl,_,rfl,_,rfl,x,y,rfl,rfl,z,_,_,rfl,?_⟩;refine ⟨⟨rfl,y,x.fmod y,rfl,?_⟩,?_⟩
       . rw [se,e]
       . exact uH z
   . intro σ H' R R' hR h;refine hZq fun q_ e_=> ?_;obtain ⟨v,e1,e2,q,e3,h⟩:=h;subst e_;exact ⟨v,e1,e2,q,e3,hR _ _ h⟩
theorem js {t b:Int} (h:Big b) (z:b≠0):Big (Int.gcd t b:Int):=by
 have:Int.gcd t b<=b.natAbs:=Int.gcd_le_natAbs_right t (by omega)
 unfold Big at*;omega
open PySem L2 Mth Dec Tre Wd Tw
def spBr (K:PySem.W.Frag):Sp:=fun vs H Q _=>∃(l:Addr) (y:Str) (ys:List Str),vs= [.ref l]/\SqL K H l ((y::ys).map V.str)/\y.length<=1000/\ys.length<=10/\(∀z∈ys,z.length<=600000)/\∀z,cl z=40::cl y++spC (ys.map cl)++ [41]->Q (.str z) H
theorem scBr:FnScope ["words"] ["words"] (af sBr):= .of
theorem xR {f:Addr} {fd:FuncData} (F:Fun K "bracketed" "bracketed" sBr f fd):FnOk P w K mg base CX0 1 f fd ["words"] (spBr K):=by
 refine F.okb scBr fun vs H Q E h=> ?_;obtain ⟨l,y,ys,rfl,hl,hy,hn,hz,k⟩:=h;refine ⟨rfl,fun cdv A outer s hr=> ?_⟩;refine ⟨_,ah (az (ak gL (ak gL bK (ig PySem.F.plainAttrs_str PySem.F.slot_str_join PySem.F.type_str_join ur bK (a0 (pv 0) a9))) bK)),?_⟩;have e1:(Str.ofString " ").length=1:=by decide +kernel
 have e2:(Str.ofString "(").length=1:=by decide +kernel
 have e3:(Str.ofString ")").length=1:=by decide +kernel
 have hs:=pE hz;have hm:ys.length*600000<=10*600000:=zh _ hn
 have hj:(Txt.join (Str.ofString " ") (y::ys)).length<=6002000:=by
  have h2:=m4 (B:=600000) (cs:=ys.map cl) (fun c m=>by
   obtain ⟨z,mz,rfl⟩:=yR.mp m;rw [cL]
   exact hz z mz)
  rw [yi] at h2;have h3:ys.length*(600000+1)<=10*600001:=zh _ hn;rw [<-cL,kg,yI,cL];omega
 have hL:(16000000:Nat)<=sizeLine:=by decide +kernel
 refine ⟨rfl,_,rfl,_,l,y::ys,rfl,rfl,hl,by rw [e1];simp only [yG,List.sum_cons,yH];omega,_,_,rfl,rfl,by rw [e2];omega,_,_,rfl,rfl,by rw [Dec.len_app,e2,e3];omega,k _ ?_⟩
 rw [gZ,gZ,xW,xJ,kg];simp
def spSt (n:Nat):Sp:=fun vs H Q _=>∃(v:V) (t:Tr),vs= [v]/\TrAt H v t/\Ty .tm t/\t.depth < n/\(tmC t).length<=1000/\∀z H',Same H H'->cl z=tmC t->Q (.str z) H'
theorem scSt:FnScope ["term"] ["term"] (af sSt):= .of
theorem p9 {ts:List Tr} {t:Tr} (m:t∈ts):(tmC t).length<=(tmsC ts).length:=by
 rw [eC];obtain ⟨a,b,rfl⟩:=List.append_of_mem m;rw [yK,tR,yG];show _<=(_++((32::tmC t)++spC (b.map tmC))).length;simp only [yI,yH];omega
theorem xQ {f fB:Addr} {fd fdB:FuncData} (F:Fun K "shown_term" "shown_term" sSt f fd) (bF:Binds K fd ["term"] []) (mF:mg "shown_term"=some (.ref f)) (FB:Fun K "bracketed" "bracketed" sBr fB fdB) (bB:Binds K fdB ["words"] []) (mB:mg "bracketed"=some (.ref fB)):
 ∀n,FnOk P w K mg base CX0 (n+1) f fd ["term"] (spSt n):=by
 have GB:FnOk P w K mg base CX0 1 fB fdB ["words"] (spBr K):=xR FB;intro n
 induction n with
 |zero=>exact ⟨fun vs H Q E ⟨_,_,_,_,_,h,_⟩=>absurd h (by omega),fun A outer s H args us vs Q E _ _ _ _ ⟨_,_,_,_,_,h,_⟩=>absurd h (by omega)⟩
 |succ n ih=>
  refine F.ok scSt (fun vs H Q E h=> ?_) (fun cdv A outer s H vs Q E hr h=> ?_)
  . obtain ⟨v,t,rfl,_⟩:=h;rfl
  refine hZq fun q_ e_=> ?_;obtain ⟨v,t,rfl,hv,hw,hd,hl,k⟩:=h;subst e_;have hr1:Room 1 _:=hr.mono (by omega)
  refine ⟨_,ac (cj (aG cD (am aH (pv 0) ad fun _ _=>rfl) bK (aA _)) (ah (az (am aH (pv 0) ad fun _ _=>rfl))) aU)
   (ah (az (ai GB hr1 rfl mB FB.kp bB .nil ax (a0 (ak cJ (bu (a0 (am aH (pv 0) ad fun _ _=>rfl) a9))
    (aV (NC:= ["inner"]) (mp:= [none]) rfl (fc (am aH (pv 0) ad fun _ _=>rfl)) (fun _ _ _ _ _=>pgA 0 (show (["inner"]:List Str).Nodup by decide +kernel)) (fun _ _ _ _ _=>aS) (fun _ _ _ _ _=>ai ih hr rfl mF F.kp bF .nil ax (a0 (pv 0) a9)))) a9)))),?_⟩
  cases hw with
  |nm x=>
   refine hZq fun q_ e_=> ?_;obtain ⟨r,y,rfl,h1,h2⟩:=at2 hv;subst e_;have h3:=at_s h2;subst h3;refine ⟨_,rfl,r,_,0, .str "name",rfl,rfl,SqT.of h1,rfl,rfl,_,rfl,?_⟩;rw [decide_eq_true rfl];refine iteT ⟨_,rfl,r,_,1, .str x,rfl,rfl,SqT.of h1,rfl,?_⟩;exact k _ H (Same.refl H) (eD _ _).symm
  |ap g ts ht3 hty=>
   refine hZq fun q_ e_=> ?_;obtain ⟨r,y,z,rfl,h1,h2,h3⟩:=at3 hv;have e2:=at_s h2;subst e2;obtain ⟨q,vs,rfl,h4,h5⟩:=at_t h3;subst e_;refine ⟨_,rfl,r,_,0, .str "call",rfl,rfl,SqT.of h1,rfl,rfl,_,rfl,?_⟩;rw [decide_eq_false (show¬V.str "call"=V.str "name" by decide +kernel)]
   refine iteF ?_;refine ⟨_,rfl,r,_,1, .str g,rfl,rfl,SqT.of h1,rfl,by show 1<=sizeLine;decide,fun l nl=> ?_⟩
   have s1:Same H (upd H l (.lst [.str g])):=aa nl;refine bV rfl ?_;refine ⟨_,rfl,r,_,2, .ref q,rfl,rfl,SqT.of (s1 _ _ h1),rfl,q,rfl,⟨vs,SqT.of (s1 _ _ h4)⟩,fun D nD=> ?_⟩;have hlen:=h5.len;have hL:(100000:Nat)<=sizeLine:=by decide +kernel
   have hl':=hl;unfold s_ at hl';rw [dQ] at hl';simp only [yI,yH,cL] at hl';refine sU (xs:=vs) (fun i acc H'=>Same (upd H l (.lst [.str g])) H'/\H' D=some (.lst acc)/\∃ys:List Str,acc=ys.map V.str/\ys.map cl=(ts.take i).map tmC) ⟨aa nD,a8,[],rfl,rfl⟩ (fun i acc H' p=>SqT.of (p.1 _ _ (s1 _ _ h4))) ?_ ?_
   . intro i x acc H' hi ex z_;refine hZq fun q_ e_=> ?_;obtain ⟨sH,hD,ys,rfl,ey⟩:=z_;obtain ⟨t,et,htt⟩:=h5.get' ex;subst e_;have mt:=yq et;have hsub:=p9 mt;have yl:=congrArg List.length ey;rw [yi,yi,yS] at yl;refine ⟨_,rfl,x,t,rfl,htt.mono (Kd.of_same (s1.trans sH)),hty t mt,?_,by omega,fun z H6 s6 ez=>CompN.mk hi ?_ (s6 _ _ hD) ⟨aF nD (sH.trans s6),a8,ys++ [z],by rw [yK];rfl,?_⟩⟩
     . have hd2:=hd;simp only [Tr.depth,Trs.depth] at hd2;have:=bg mt;omega
     . rw [yi];omega
     . rw [yK,ey,List.take_add_one,et];simp [ez]
   . intro acc H' z_;refine hZq fun q_ e_=> ?_;obtain ⟨sH,hD,ys,rfl,ey⟩:=z_;subst e_;rw [hlen,yO] at ey;have hl2:H' l=some (.lst [.str g]):=sH _ _ a8;have yl:=congrArg List.length ey;rw [yi,yi] at yl;refine ⟨l,D,[.str g],_,rfl,rfl,hl2,hD,by simp only [yi,yH,List.length_nil];omega,fun p np=> ?_⟩
     refine ⟨p,g,ys,rfl,SqL.of ?_,by omega,by omega,fun y my=> ?_,fun z ez=> ?_⟩
     . rw [a8];rfl
     . have:cl y∈ts.map tmC:=by rw [<-ey];exact List.mem_map_of_mem my
       obtain ⟨t,mt,e⟩:=yR.mp this;have:=p9 mt;rw [<-cL,<-e];omega
     . refine k z _ (s1.trans (sH.trans (aa np))) ?_;unfold s_;rw [ez,dQ,eC,ey]
end
end K45
namespace Su
open PySem L2 Tre Mth Wd
noncomputable def lin (g:Tr->Rat):List Pq->Rat
 | []=>0
 |p::r=>rv p.2*g p.1+lin g r
theorem ja (g:Tr->Rat) (a b:List Pq):lin g (a++b)=lin g a+lin g b:=by
 induction a with
 |nil=>simp only [List.nil_append,lin];grind
 |cons p r ih=>simp only [z6,lin,ih];grind
theorem uw (g:Tr->Rat) (a:List Pq):lin g (a.map neg)= -lin g a:=by
 induction a with
 |nil=>simp only [zH,lin];grind
 |cons p r ih=>
  simp only [yG,lin,ih];show rv (negF p.2)*g p.1+_=_;rw [qC];grind
theorem oy (g:Tr->Rat) {q:Fr} (hq:Sh q) {a:List Pq} (h:∀p∈a,Sh p.2):lin g (a.map (scale q))=lin g a*rv q:=by
 induction a with
 |nil=>simp only [zH,lin];grind
 |cons p r ih=>
  simp only [yG,lin,ih fun x m=>h x (ym _ m)];show rv (gj p.2 q)*g p.1+_=_;rw [jE (h p yn) hq];grind
open Classical in
theorem ox (g:Tr->Rat) (k:Tr) (l:List Pq):lin g l=g k*tot k l+lin g (l.filter fun p=>decide (p.1≠k)):=by
 induction l with
 |nil=>simp only [List.filter_nil,lin,tot];grind
 |cons p r ih=>
  rw [List.filter_cons];by_cases z:p.1=k
  . have e:decide (p.1≠k)=false:=by simp [z]
    rw [e,if_neg (by decide)]
    simp only [lin,tot,if_pos z,ih,z];grind
  . have e:decide (p.1≠k)=true:=by simp [z]
    rw [e,if_pos rfl];simp only [lin,tot,if_neg z,ih];grind
open Classical in
theorem oW (t k:Tr) (l:List Pq):tot t (l.filter fun p=>decide (p.1≠k))=if t=k then 0 else tot t l:=by
 induction l with
 |nil=>simp only [List.filter_nil,tot];grind
 |cons p r ih=>
  rw [List.filter_cons];by_cases z:p.1=k
  . have e:decide (p.1≠k)=false:=by simp [z]
    rw [e,if_neg (by decide),ih]
    by_cases y:t=k
    . simp only [if_pos y]
    . simp only [if_neg y,tot,if_neg (fun q:p.1=t=>y (q.symm.trans z))];grind
  . have e:decide (p.1≠k)=true:=by simp [z]
    rw [e,if_pos rfl];simp only [tot,ih];by_cases y:t=k
    . simp only [if_pos y];rw [if_neg (fun q:p.1=t=>z (q.trans y))];grind
    . simp only [if_neg y]
open Classical in
theorem jT (g:Tr->Rat):∀(n:Nat) (l:List Pq),l.length<=n->(∀t,tot t l=0)->lin g l=0
 |_,[],_,_=>rfl
 |0,p::r,h,_=>by simp at h
 |n+1,p::r,h,ht=>by
  rw [ox g p.1,ht,jT g n]
  . grind
  . have e:decide (p.1≠p.1)=false:=by simp
    rw [List.filter_cons,e,if_neg (by decide)]
    have:=yW (fun q:Pq=>decide (q.1≠p.1)) r;simp only [yH] at h;omega
  . intro t;rw [oW];split
    . rfl
    . exact ht t
theorem rN (g:Tr->Rat) {a b:List Pq} (h:∀t,tot t a=tot t b):lin g a=lin g b:=by
 have:=jT g _ (a++b.map neg) (yp _) fun t=>by rw [dP,tK,h];grind
 rw [ja,uw] at this;grind
theorem Can.key {ps us:List Pq} (h:Can ps us) {p:Pq} (m:p∈us):∃q∈ps,q.1=p.1:=by
 refine Classical.byContradiction fun no=> ?_;have e:=jv h.asc m;rw [h.eq,dq fun q mq ez=>no ⟨q,mq,ez⟩] at e;exact (h.sh p m).2 ((vc (h.sh p m).1).mp e.symm)
noncomputable def vl (W:Wld) (t:Tr):Rat:=rv (valT W t)
theorem xI {p q:Fr} (h1:0 < p.2) (h2:0 < q.2):p.1*q.2<=q.1*p.2↔rv p<=rv q:=by
 have a:(0:Rat) < p.2:=by exact_mod_cast h1
 have b:(0:Rat) < q.2:=by exact_mod_cast h2
 have e:(p.1*q.2<=q.1*p.2)↔((p.1:Rat)*q.2<=q.1*p.2):=by
  rw [<-Rat.intCast_mul,<-Rat.intCast_mul,Rat.intCast_le_intCast]
 rw [e];unfold rv;have ia:(0:Rat) < (p.2:Rat)⁻¹:=Rat.inv_pos.mpr a;have ib:(0:Rat) < (q.2:Rat)⁻¹:=Rat.inv_pos.mpr b;rw [Rat.div_def,Rat.div_def];have na:(p.2:Rat)*(p.2:Rat)⁻¹=1:=Rat.mul_inv_cancel _ (by grind)
 have nb:(q.2:Rat)*(q.2:Rat)⁻¹=1:=Rat.mul_inv_cancel _ (by grind)
 generalize (p.2:Rat)⁻¹=x at*;generalize (q.2:Rat)⁻¹=y at*;generalize (p.2:Rat)=c at*;generalize (q.2:Rat)=d at*;generalize (p.1:Rat)=m at*;generalize (q.1:Rat)=n at*;constructor
 . intro h;have h3:=Rat.mul_le_mul_of_nonneg_right h (Rat.le_of_lt ia);have h4:=Rat.mul_le_mul_of_nonneg_right h3 (Rat.le_of_lt ib);have e1:m*d*x*y=m*x:=by clear h h3 h4 e;grind
   have e2:n*c*x*y=n*y:=by clear h h3 h4 e;grind
   rw [e1,e2] at h4;exact h4
 . intro h;have h3:=Rat.mul_le_mul_of_nonneg_right h (Rat.le_of_lt a);have h4:=Rat.mul_le_mul_of_nonneg_right h3 (Rat.le_of_lt b);have e1:m*x*c*d=m*d:=by clear h h3 h4 e;grind
   have e2:n*y*c*d=n*c:=by clear h h3 h4 e;grind
   rw [e1,e2] at h4;exact h4
open PySem L2 Tre Mth Wd
theorem nW:∀ {us:List Pq} {T:List Tr},Asc us->(∀u∈us,u.1∈T)->us.length<=T.length
 | [],_,_,_=>yJ _
 |p::r,T,h,hm=>by
  classical
  obtain ⟨h1,h2⟩:=List.pairwise_cons.mp h
  have ih:=nW (T:=T.filter fun t=>decide (t≠p.1)) h2 fun u m=>za.mpr ⟨hm u (ym _ m),by
   have:=jP (h1 u m);simp only [decide_eq_true_eq]
   exact fun z=>this z.symm⟩
  have:(T.filter fun t=>decide (t≠p.1)).length < T.length:=by
   refine Nat.lt_of_le_of_ne (yW _ _) fun e=> ?_;have:=List.length_filter_eq_length_iff.mp e p.1 (hm p yn);simp at this
  rw [yH];omega
structure Bd where
 us:List Pq
 m:Fr
 st:Bool
abbrev Wt:=Nat×Fr
noncomputable def wtT (k:Wt):Tr:= .tup [.int (k.1:Int),frT k.2]
noncomputable def bdAt (bs:List Bd) (i:Nat):Bd:=bs.getD i ⟨[],zero,false⟩
noncomputable def aR (bs:List Bd):List Wt->List Pq
 | []=> []
 |k::r=>(bdAt bs k.1).us.map (scale k.2)++aR bs r
noncomputable def totR (bs:List Bd):List Wt->Rat
 | []=>0
 |k::r=>rv (bdAt bs k.1).m*rv k.2+totR bs r
theorem oF (bs:List Bd) (a b:List Wt):aR bs (a++b)=aR bs a++aR bs b:=by
 induction a with
 |nil=>rfl
 |cons k r ih=>simp only [z6,aR,ih,List.append_assoc]
theorem oZ (bs:List Bd) (a b:List Wt):totR bs (a++b)=totR bs a+totR bs b:=by
 induction a with
 |nil=>simp only [List.nil_append,totR];grind
 |cons k r ih=>simp only [z6,totR,ih];grind
theorem oE (bs:List Bd) (k:Wt):aR bs [k]=(bdAt bs k.1).us.map (scale k.2):=by simp [aR]
theorem oY (bs:List Bd) (k:Wt):totR bs [k]=rv (bdAt bs k.1).m*rv k.2:=by simp only [totR];grind
end Su
namespace Tre
open PySem PySem.Spec PyProof.Rows L2
section
variable {X:Cx}
theorem rX {pins:List (Addr×Obj)} {σ:L2.St} {H:Hp} {s:Shared} {A:Around} {ts us:List Tr} {vs ws:List V} {as bs:List Value} (I:Inv X pins σ H s) (hu:A.units+42 < cLine) (h1:TrsAt H vs ts) (h2:TrsAt H ws us) (hp:Trs.pure ts\/Trs.pure us) (hd:Trs.depth ts<=40) (r1:Vals vs as) (r2:Vals ws bs)
 (j:Nat) (g1:j < as.toArray.size) (g2:j < bs.toArray.size):SeqAt.EqAt A s as.toArray[j] bs.toArray[j] (eqJ ts us j):=by
 have l1:=h1.len;have l2:=h2.len;have l3:=r1.length;have l4:=r2.length;have h1':j < as.length:=by simpa using g1
 have h2':j < bs.length:=by simpa using g2
 have t1:ts[j]?=some (ts[j]'(by omega)):=yj _
 have t2:us[j]?=some (us[j]'(by omega)):=yj _
 obtain ⟨v,e1,a1⟩:=h1.get t1;obtain ⟨w,e2,a2⟩:=h2.get t2;obtain ⟨u1,e3,q1⟩:=r1.get e1;obtain ⟨u2,e4,q2⟩:=r2.get e2;have z1:as.toArray[j]=u1:=by rw [List.getElem_toArray];rw [yj h1'] at e3;exact yF e3
 have z2:bs.toArray[j]=u2:=by rw [List.getElem_toArray];rw [yj h2'] at e4;exact yF e4
 rw [z1,z2,sw t1 t2];refine iJ I 40 ?_ ?_ a1 a2 q1 q2 (by omega)
 . have:=bg (yq t1);omega
 . rcases hp with hp|hp
   . exact .inl (dr hp (yq t1))
   . exact .inr (dr hp (yq t2))
end
end Tre
namespace L2
open PySem
section
variable {X:Cx} {tg:Expr}
end
def Sq (H:Hp) (a:Addr) (xs:List V):Prop:=H a=some (.lst xs)\/H a=some (.tup xs)
theorem Sq.sq {K:PySem.W.Frag} {H:Hp} {a:Addr} {xs:List V} (h:Sq H a xs):SqL K H a xs\/SqT K H a xs:=h.elim (fun q=> .inl (SqL.of q)) (fun q=> .inr (SqT.of q))
end L2
namespace K45
open PySem L2 Mth Tre Wd Su
noncomputable def lcmF (s:Int):List Fr->Int
 | []=>s
 |f::r=>lcmF (s / (Int.gcd s f.2:Int)*f.2) r
theorem rQ (s:Int) (a b:List Fr):lcmF s (a++b)=lcmF (lcmF s a) b:=by
 induction a generalizing s with
 |nil=>rfl
 |cons f r ih=>simp only [z6,lcmF,ih]
theorem lcm1 {s b:Int} (hs:0 < s) (hb:0 < b):0 < s / (Int.gcd s b:Int)*b/\s∣s / (Int.gcd s b:Int)*b/\b∣s / (Int.gcd s b:Int)*b/\(s / (Int.gcd s b:Int)*b).natAbs<=s.natAbs*b.natAbs:=by
 obtain ⟨x',y',e1,e2,_,e3,_⟩:=cN (x:=s) (y:=b) (by omega)
 have hg:0 < (Int.gcd s b:Int):=by
  have:Int.gcd s b≠0:=fun z=>by
   rw [z] at e2;have:b=0:=by rw [e2];exact zk _
   omega
  omega
 rw [e3];have hx:0 < x':=de (k:=(Int.gcd s b:Int)) (by omega) (by rw [<-e1];exact hs)
 refine ⟨zP hx hb,⟨y',?_⟩,⟨x',zy _ _⟩,?_⟩
 . generalize (Int.gcd s b:Int)=g at*;subst e1;rw [e2];grind
 . rw [yT];refine zh _ ?_
   have:x'.natAbs<=((Int.gcd s b:Int)*x').natAbs:=by
    rw [yT];exact Nat.le_mul_of_pos_left _ (by omega)
   rw [<-e1] at this;exact this
theorem g6 {M:Nat}:∀ {fs:List Fr} {s:Int},0 < s->(∀f∈fs,0 < f.2/\f.2.natAbs<=M)->0 < lcmF s fs/\s∣lcmF s fs/\(∀f∈fs,f.2∣lcmF s fs)/\(lcmF s fs).natAbs<=s.natAbs*M^fs.length
 | [],s,hs,_=>⟨hs,Int.dvd_refl _,fun f m=>(by cases m),by simp [lcmF]⟩
 |f::r,s,hs,h=>by
  obtain ⟨a1,a2,a3,a4⟩:=lcm1 hs (h f yn).1;obtain ⟨b1,b2,b3,b4⟩:=g6 (M:=M) (fs:=r) a1 fun g m=>h g (ym _ m);refine ⟨b1,Int.dvd_trans a2 b2,fun g m=> ?_,?_⟩
  . rcases yx.mp m with rfl|m
    . exact Int.dvd_trans a3 b2
    . exact b3 g m
  . refine yC b4 ?_;rw [yH,Nat.pow_succ,Nat.mul_comm (M^r.length),<-Nat.mul_assoc];exact zh _ (yC a4 (Nat.mul_le_mul_left _ (h f yn).2))
section
variable {P:Program} {w:World} {K:PySem.W.Frag} {mg:Str->Option Value} {base:Heap} {T0:Addr}
def lZ:Sp:=fun vs H Q _=>∃(t b:Int),vs= [.int t, .int b]/\0 < b/\Big b/\∀p,H p=none->Q (.ref p) (upd H p (.tup [.int (fx t b), .int (fy t b)]))
theorem scF:FnScope ["top","bottom","divisor"] ["top","bottom"] (af sFr):= .of
theorem wB {f fC:Addr} {fd fdC:FuncData} (F:Fun K "fraction" "fraction" sFr f fd) (FC:Fun K "common_divisor" "common_divisor" sCd fC fdC) (bC:Binds K fdC ["one","other"] []) (mC:mg "common_divisor"=some (.ref fC)) (B:Blt mg):FnOk P w K mg base CX0 2 f fd ["top","bottom"] lZ:=by
 have GC:FnOk P w K mg base CX0 1 fC fdC ["one","other"] spCd:=rA FC B;refine F.okb scF fun vs H Q E h=> ?_;obtain ⟨t,b,rfl,h0,hb,k⟩:=h;refine ⟨rfl,fun cdv A outer s hr=> ?_⟩
 refine ⟨_,ac (cj (aG cD (pv 1) ad (aA _)) qV aU)
  (ac (psA 2 scF.nd (ai GC hr rfl mC FC.kp bC .nil ax (a0 (pv 0) (a0 (pv 1) a9))))
  (ac (cj (aG mv (pv 1) ad (aA _)) qV aU)
  (ah (az (aK (a0 (ak jK (pv 0) (pv 2)) (a0 (ak jK (pv 1) (pv 2)) a9))))))),?_⟩
 have z:b≠0:=by omega
 have z':¬(V.int b=V.int 0):=fun q=>z (V.int.inj q);refine ⟨_,rfl,rfl,_,rfl,?_⟩;rw [decide_eq_false z'];refine iteF ?_;refine ⟨_,rfl,_,rfl,t,b,rfl,?_⟩;refine ⟨_,rfl,b,0,rfl,rfl,_,rfl,?_⟩;rw [decide_eq_false (show¬b < 0 by omega)]
 refine iteF ?_;have ed:dv t b=(Int.gcd t b:Int):=by unfold dv;rw [if_neg (by omega)]
 have n0:(Int.gcd t b:Int)≠0:=by rw [<-ed];exact sy z
 refine ⟨_,rfl,_,rfl,t,_,rfl,rfl,⟨n0,js hb z⟩,_,rfl,_,rfl,b,_,rfl,rfl,⟨n0,js hb z⟩,two,fun p hp=> ?_⟩;have:=k p hp;unfold fx fy at this;rw [ed] at this;exact this
def pV:Sp:=fun vs H Q _=>∃(v:V) (us:List Pq),vs= [v]/\TrAt H v (.tup (us.map prT))/\us.length<=64/\∀(l:Addr) (ws:List V) (H':Hp),Same H H'->H l=none->H' l=some (.lst ws)->TrsAt H' ws (us.map fun u=>frT u.2)->Q (.ref l) H'
theorem xD:FnScope ["pairs"] ["pairs"] (af sShi):= .of
theorem wn {f:Addr} {fd:FuncData} (F:Fun K "shares_in" "shares_in" sShi f fd):FnOk P w K mg base CX0 1 f fd ["pairs"] pV:=by
 refine F.okb xD fun vs H Q E h=> ?_;refine hZq fun q_ e_=> ?_;obtain ⟨v,us,rfl,hv,hl,k⟩:=h;subst e_;refine ⟨rfl,fun cdv A outer s hr=> ?_⟩
 refine ⟨_,ah (az (aV (NC:= ["term","share"]) (mp:= [none,none]) (g:=gTup K 2 (bf (aL 0) (bf (aL 1) gNil))) rfl (fc (pv 0))
  (fun _ _ _ _ _=>be (n:=2) rfl (aj (pgA 0 (show (["term","share"]:List Str).Nodup by decide +kernel)) (aj (pgA 1 (show (["term","share"]:List Str).Nodup by decide +kernel)) aP))) (fun _ _ _ _ _=>aS)
  (fun _ _ _ _ _=>pv 1))),?_⟩
 have hL20:(20000:Nat)<=sizeLine:=by decide +kernel
 refine hZq fun q_ e_=> ?_;obtain ⟨au,xs,rfl,hau,hxs⟩:=at_t hv;subst e_;have xl:=hxs.len;rw [yi] at xl;refine sV (K':=K) (xs:=xs) (rest:= []) (a:=au) rfl (fun Q q=>⟨_,rfl,q⟩) (SqT.of hau) fun L nL=> ?_;refine ⟨fun j acc' H'=>Same H H'/\H' L=some (.lst acc')/\TrsAt H' acc' ((us.take j).map fun u=>frT u.2),⟨aa nL,a8,by rw [zg];exact .nil⟩,fun j acc' H' p=>SqT.of (p.1 _ _ hau),?_,?_⟩
 . rintro j z acc' H' hj ⟨s2,hL,hA2⟩ ez;refine hZq fun q_ e_=> ?_;obtain ⟨t',et',ht'⟩:=(hxs.mono (Kd.of_same s2)).get' ez;rw [yo] at et';obtain ⟨⟨tm,fr⟩,eq,rfl⟩:=yw.mp et';obtain ⟨T',x,y,rfl,hT',hx,hy⟩:=c6 ht';subst e_;have al2:=hA2.len;rw [yi,yS] at al2;refine ⟨T',x,y,rfl,SqT.of hT',_,rfl,?_⟩;have kd:=Kd.upd (ys:=acc'++ [y]) hL;refine CompN.mk hj (by omega) hL ⟨aF nL s2,a8,?_⟩
   rw [ay eq,yK];exact TrsAt.app (.cons (hy.mono kd) .nil) (hA2.mono kd)
 . rintro acc' H2 ⟨s2,hL,hA2⟩;rw [xl,yO] at hA2;exact k L acc' H2 s2 nL hL hA2
def pX:Sp:=fun vs H Q _=>∃(l:Addr) (ws:List V) (fs:List Fr) (M:Nat),vs= [.ref l]/\H l=some (.lst ws)/\TrsAt H ws (fs.map frT)/\(∀f∈fs,0 < f.2/\f.2.natAbs<=M)/\0 < M/\M^(fs.length+1) < 2^8000/\Q (.int (lcmF 1 fs)) H
theorem scSco:FnScope ["shares","scale","top","bottom"] ["shares"] (af sSco):= .of
theorem wp {f fC:Addr} {fd fdC:FuncData} (F:Fun K "scale_of" "scale_of" sSco f fd) (FC:Fun K "common_divisor" "common_divisor" sCd fC fdC) (bC:Binds K fdC ["one","other"] []) (mC:mg "common_divisor"=some (.ref fC)) (B:Blt mg):FnOk P w K mg base CX0 2 f fd ["shares"] pX:=by
 have GC:FnOk P w K mg base CX0 1 fC fdC ["one","other"] spCd:=rA FC B;refine F.okb scSco fun vs H Q E h=> ?_;refine hZq fun q_ e_=> ?_;obtain ⟨l,ws,fs,M,rfl,hl,hT,hfs,hM0,hM,k⟩:=h;subst e_;refine ⟨rfl,fun cdv A outer s hr=> ?_⟩
 refine ⟨_,ac (psA 1 scSco.nd ad)
  (ac (bZ PassesOwn.never rfl (aZ (pv 0)) (be rfl (aj (pgA 2 scSco.nd) (aj (pgA 3 scSco.nd) aP)))
   (ah (psA 1 scSco.nd (ak aO (ak cU (pv 1) (ai GC hr rfl mC FC.kp bC .nil ax (a0 (pv 1) (a0 (pv 3) a9)))) (pv 3)))))
  (ah (az (pv 1)))),?_⟩
 have wl:=hT.len;rw [yi] at wl;refine ⟨_,rfl,l,rfl,⟨_,SqL.of hl⟩,?_⟩;refine dC (xs:=ws) (fun i σ H'=>H'=H/\∃v2 v3:Option V,σ= [some (.ref l),some (.int (lcmF 1 (fs.take i))),v2,v3]) ⟨rfl,none,none,rfl⟩ (fun i σ H' _ p=>by rw [p.1];exact SqL.of hl) ?_ ?_
 . intro i x σ H1 ex z_;refine hZq fun q_ e_=> ?_;obtain ⟨rfl,v2,v3,rfl⟩:=z_;obtain ⟨t,et,ht⟩:=hT.get' ex;rw [yo] at et;obtain ⟨fr,ef,rfl⟩:=yw.mp et;obtain ⟨rf,rfl,hrf⟩:=eW ht;have il:i < fs.length:=(yt.mp ef).1;obtain ⟨f0,fM⟩:=hfs fr (yq ef);obtain ⟨c1,_,_,c4⟩:=g6 (M:=M) (fs:=fs.take i) (s:=1) (by decide) fun g m=>hfs g (zG m)
   subst e_;have p1:M^(fs.take i).length<=M^(fs.length+1):=Nat.pow_le_pow_right hM0 (by rw [yS];omega)
   have p2:M^1<=M^(fs.length+1):=Nat.pow_le_pow_right hM0 (by omega)
   rw [Nat.pow_one] at p2
   have b1:Big (lcmF 1 (fs.take i)):=by
    unfold Big;have:(1:Int).natAbs=1:=rfl;rw [this,Nat.one_mul] at c4;omega
   have b2:Big fr.2:=by unfold Big;omega
   have g0:0 < (Int.gcd (lcmF 1 (fs.take i)) fr.2:Int):=by
    have:0 < Int.gcd (lcmF 1 (fs.take i)) fr.2:=yU _ (by omega)
    omega
   refine ⟨rf,_,rfl,SqT.of hrf,rfl,_,_,rfl,_,_,rfl,rfl,?_⟩;refine ⟨_,rfl,_,rfl,_,rfl,_,_,rfl,_,_,rfl,rfl,⟨g0,js b2 (by omega)⟩,_,rfl,_,_,rfl,rfl,⟨?_,b2⟩,rfl,some (.int fr.1),some (.int fr.2),?_⟩
   . unfold Big at*;exact yM (cA _ _) b1
   . rw [ay ef,rQ];rfl
 . rintro σ H1 ⟨rfl,v2,v3,rfl⟩;rw [wl,yO];exact ⟨_,rfl,k⟩
noncomputable def wh (f:Fr) (s:Int):Int:=f.1*(s / f.2)
def lW:Sp:=fun vs H Q _=>∃(v:V) (f:Fr) (s:Int),vs= [v, .int s]/\TrAt H v (frT f)/\0 < f.2/\Big f.2/\Big f.1/\Big s/\Q (.int (wh f s)) H
theorem xz:FnScope ["share","scale"] ["share","scale"] (af sWho):= .of
theorem vY {f:Addr} {fd:FuncData} (F:Fun K "whole_of" "whole_of" sWho f fd):FnOk P w K mg base CX0 1 f fd ["share","scale"] lW:=by
 refine F.okb xz fun vs H Q E h=> ?_;obtain ⟨v,f,sc,rfl,hv,f0,b2,b1,bs,k⟩:=h;refine ⟨rfl,fun cdv A outer s hr=> ?_⟩;refine ⟨_,ah (az (ak aO (am aH (pv 0) ad fun _ _=>rfl) (ak cU (pv 1) (am aH (pv 0) ad fun _ _=>rfl)))),?_⟩;obtain ⟨rf,rfl,hrf⟩:=eW hv;refine ⟨_,rfl,rf,_,0,_,rfl,rfl,SqT.of hrf,rfl,_,rfl,_,rfl,rf,_,1,_,rfl,rfl,SqT.of hrf,rfl,_,_,rfl,rfl,⟨f0,b2⟩,_,_,rfl,rfl,⟨b1,?_⟩,k⟩;unfold Big at*;exact yM (cA _ _) bs
theorem uP {f:Fr} {s:Int} (h:0 < f.2):(wh f s).natAbs<=f.1.natAbs*s.natAbs:=by
 unfold wh;rw [yT];exact Nat.mul_le_mul_left _ (cA _ _)
end
end K45
namespace L2
open PySem
open PySem PySem.Spec PyProof.Rows
section
variable {prog:Program} {w:World} {A:Around} {E:Value->Shared->Prop} {s:Shared}
end
section
variable {X:Cx} {o:Expr} {lo:Expr} {p2 tpos pos:Pos} {ta tl:TE}
end
end L2
namespace K45
open PySem L2 Mth Tre Wd Su Tw Fm
theorem SqL.same {K:PySem.W.Frag} {H H':Hp} {a:Addr} {xs:List V} (s:Same H H') (h:SqL K H a xs):SqL K H' a xs:=h.imp (fun x=>x.imp (fun e=>s _ _ e) fun ⟨o,e⟩=>⟨o,s _ _ e⟩) id
def Rk (H:Hp) (e:Key×V) (t:Tr):Prop:=∃z:Str,e.1=Sum.inr z/\Dec.cl z=tmC t/\Gt t/\TrAt H e.2 t
def DictT (H:Hp) (kvs:List (Key×V)) (acc:List Tr):Prop:=Paired (Rk H) kvs acc
def But1 (d:Addr) (H H':Hp):Prop:=∀x o,x≠d->H x=some o->H' x=some o
theorem But1.trans {d:Addr} {H H1 H2:Hp} (a:But1 d H H1) (b:But1 d H1 H2):But1 d H H2:=fun x o n e=>b x o n (a x o n e)
theorem But1.of_same {d:Addr} {H H':Hp} (s:Same H H'):But1 d H H':=fun x o _ e=>s x o e
theorem But1.kd {d:Addr} {H H':Hp} {kvs:List (Key×V)} (hd:H d=some (.dK kvs)) (b:But1 d H H'):Kd H H':=by
 have ne:∀ {a:Addr} {o:HO},H a=some o->(∀z,o≠ .dK z)->a≠d:=fun e h z=>by
  rw [z,hd] at e;exact h _ (yF e).symm
 exact ⟨fun a xs e=>b a _ (ne e fun z t=>by cases t) e,fun a xs e=>⟨xs,b a _ (ne e fun z t=>by cases t) e⟩⟩
theorem DictT.mono {H H':Hp} {kvs:List (Key×V)} {acc:List Tr} (h:DictT H kvs acc) (k:Kd H H'):DictT H' kvs acc:=Paired.imp' (fun e t ⟨z,a,b,c,d⟩=>⟨z,a,b,c,d.mono k⟩) h
theorem DictT.len {H:Hp} {kvs:List (Key×V)} {acc:List Tr} (h:DictT H kvs acc):kvs.length=acc.length:=Paired.length h
theorem DictT.vals {H:Hp} {kvs:List (Key×V)} {acc:List Tr} (h:DictT H kvs acc):TrsAt H (kvs.map (·.2)) acc:=by
 unfold DictT at h
 induction h with
 |nil=>exact .nil
 |cons h1 _ ih=>
  obtain ⟨z,_,_,_,d⟩:=h1;exact .cons d ih
theorem DictT.gt {H:Hp} {kvs:List (Key×V)} {acc:List Tr} (h:DictT H kvs acc):∀t∈acc,Gt t:=by
 unfold DictT at h
 induction h with
 |nil=>intro t m;cases m
 |cons h1 _ ih=>
  intro t m;rcases yx.mp m with rfl|m
  . obtain ⟨z,_,_,g,_⟩:=h1;exact g
  . exact ih t m
theorem DictT.none_iff {H:Hp} {kvs:List (Key×V)} {acc:List Tr} {t:Tr} {z:Str} (h:DictT H kvs acc) (hg:Gt t) (hz:Dec.cl z=tmC t):valV kvs (Sum.inr z)=none↔¬t∈acc:=by
 have e:=dk (Sum.inr z:Key) kvs
 have e2:(kvs.any fun kv=>decide (kv.1=(Sum.inr z:Key)))=true↔t∈acc:=by
  clear e;unfold DictT at h
  induction h with
  |nil=>simp
  | @cons kv u kvs us h1 _ ih=>
   rw [List.any_cons,Bool.or_eq_true,yx,ih]
   have:decide (kv.1=(Sum.inr z:Key))=true↔t=u:=by
    obtain ⟨z',a,b,g,_⟩:=h1;rw [decide_eq_true_iff,a];constructor
    . intro q;have q':=Sum.inr.inj q;subst q';exact hg.inj g (hz.symm.trans b)
    . rintro rfl;rw [Dec.cl_inj (b.trans hz.symm)]
   rw [this]
 rw [<-e2,e];cases valV kvs (Sum.inr z:Key)<;>simp
def CompD (n i:Nat) (D:Addr) (acc:List (Key×V)) (Pv:Nat->List (Key×V)->Hp->Prop) (k:Key):VK:=fun v H7=>H7 D=some (.dK acc)/\acc.length < sizeLine/\∃m',m' < n - i/\(m'=n - (i+1)/\i+1<=n/\Pv (i+1) (putK acc k v) (upd H7 D (.dK (putK acc k v))))
theorem CompD.mk {n i:Nat} {D:Addr} {acc:List (Key×V)} {Pv:Nat->List (Key×V)->Hp->Prop} {k:Key} {v:V} {H7:Hp} (hi:i < n) (hl:acc.length < sizeLine) (h1:H7 D=some (.dK acc)) (h2:Pv (i+1) (putK acc k v) (upd H7 D (.dK (putK acc k v)))):CompD n i D acc Pv k v H7:=
 ⟨h1,hl,n - (i+1),by omega,rfl,hi,h2⟩
theorem oI {K K':PySem.W.Frag} {a:Addr} {mp:List (Option Nat)} {tl:TE} {tk te:TE} {Q:VK} {σ rest:L2.St} {H H1:Hp} {xs:List V} (e:subS mp σ=none::none::rest)
 (ha:∀Q:VK,Q (.ref a) H1->tl σ H Q) (h1:SqT K H1 a xs)
 (h:∀D,H1 D=none->∃Pv:Nat->List (Key×V)->Hp->Prop,Pv 0 [] (upd H1 D (.dK []))/\(∀i acc H,Pv i acc H->SqT K H a xs)/\
  (∀i z acc H,i < xs.length->Pv i acc H->xs[i]?=some z->∃T x y,z= .ref T/\SqT K' H T [x,y]/\tk (some x::some y::rest) H fun yk H6=>∃k,yk=kV k/\te (some x::some y::rest) H6 (CompD xs.length i D acc Pv k))/\∀acc H,Pv xs.length acc H->Q (.ref D) H):
 kE mp (iTup K tl) (gTup K' 2 (bf (aL 0) (bf (aL 1) gNil))) cZ tk te σ H Q:=by
 unfold kE;rw [e];refine ha _ ⟨a,rfl,⟨xs,h1⟩,fun D nD=> ?_⟩;refine hZq fun q_ e_=> ?_;obtain ⟨Pv,p0,pq,ps,pd⟩:=h D nD;subst e_;refine ⟨fun i m acc H=>m=xs.length - i/\i<=xs.length/\Pv i acc H,⟨xs.length,by simp,yJ _,p0⟩,?_⟩
 rintro i m acc H ⟨rfl,hi,p⟩;have q1:=pq i acc H p;by_cases hlt:i < xs.length
 . refine .inr ⟨⟨xs,xs[i],q1,by simp [hlt]⟩,?_⟩
   intro v H' z_;refine hZq fun q_ e_=> ?_;obtain ⟨rfl,y⟩:=z_;obtain ⟨T,x,z,rfl,hT,hte⟩:=ps i v acc _ hlt p (y xs q1);subst e_;exact ⟨T,[x,z],rfl,hT,rfl,x,[z],rfl,z,[],rfl,rfl,ext2,hte⟩
 . have ei:i=xs.length:=by omega
   subst ei;exact .inl ⟨⟨xs,q1,yp _⟩,pd acc H p⟩
structure Gm (T:List Tr) (t:Tr):Prop where
 gt:Gt t
 dep:t.depth<=39
 len:(tmC t).length<=1000
 mem:t∈T
theorem yc {t:Tr} (h:Gt t):Dj.Hs t:=by
 cases h with
 |nm x hx=>exact ⟨_,_,rfl⟩
 |ap f ts _ _ _ _=>exact ⟨_,_,rfl⟩
section
variable {P:Program} {w:World} {K:PySem.W.Frag} {mg:Str->Option Value} {base:Heap} {T0:Addr}
noncomputable def sumT (ps:List Pq):Tr:= .tup (ps.map prT)
def pR:Sp:=fun vs H Q _=>∃(l:Addr) (xs:List V) (pss:List (List Pq)) (T:List Tr),vs= [.ref l]/\H l=some (.lst xs)/\TrsAt H xs (pss.map sumT)/\(∀ps∈pss,∀p∈ps,Gm T p.1)/\T.length < 64/\
 ∀D ws us H',H D=none->Same H H'->H' D=some (.lst ws)->TrsAt H' ws us->us.Nodup->(∀x,x∈us↔∃ps∈pss,∃p∈ps,p.1=x)->Q (.ref D) H'
theorem scTmo:FnScope ["sums","found","pairs","term","share"] ["sums"] (af sTmo):= .of
theorem we {f fS:Addr} {fd fdS:FuncData} (F:Fun K "terms_of" "terms_of" sTmo f fd) (B:Blt mg)
 (GS:FnOk P w K mg base CX0 41 fS fdS ["term"] (spSt 40)) (kS:PySem.W.keepIn K (.ref fS)=true) (bS:Binds K fdS ["term"] []) (mS:mg "shown_term"=some (.ref fS)):
 FnOk P w K mg base CX0 42 f fd ["sums"] pR:=by
 refine F.okb scTmo fun vs H Q E h=> ?_;refine hZq fun q_ e_=> ?_;obtain ⟨l,xs,pss,T,rfl,hl,hT,hg,hT64,k⟩:=h;subst e_;refine ⟨rfl,fun cdv A outer s hr=> ?_⟩;have hu60:(A.deeper (PyProof.Rows.envOfC (Str.ofString "terms_of") (af sTmo) s.heap.objs.size f cdv)).units+60 < cLine:=by have:=hr.units;omega
 refine ⟨_,ac (psA 1 scTmo.nd r6)
  (ac (bZ PassesOwn.never rfl (aZ (pv 0)) (pgA 2 scTmo.nd)
   (ah (bZ PassesOwn.never rfl (fc (pv 2)) (be rfl (aj (pgA 3 scTmo.nd) (aj (pgA 4 scTmo.nd) aP)))
    (ah (dc (ig PySem.F.plainAttrs_dict PySem.F.slot_dict_setdefault PySem.F.type_dict_setdefault i4 (pv 1) (a0 (ai GS hr rfl mS kS bS .nil ax (a0 (pv 3) a9)) (a0 (pv 3) a9))))))))
  (ah (az (av (Dj.call_sortedV rfl hu60) rfl B.so PyProof.Rows.boot_sorted (a0 (vU PySem.F.plainAttrs_dict PySem.F.slot_dict_values PySem.F.type_dict_values oq (pv 1)) a9))))),?_⟩
 have hL20:(20000:Nat)<=sizeLine:=by decide +kernel
 intro d nd;have s1:Same H (upd H d (.dK [])):=aa nd;have ldn:l≠d:=fun q=>by rw [q,nd] at hl;cases hl
 have hd1:(upd H d (.dK [])) d=some (.dK []):=a8;have hlen:=hT.len;rw [yi] at hlen;refine ⟨_,rfl,l,rfl,⟨xs,SqL.of (s1 _ _ hl)⟩,?_⟩
 refine dC (xs:=xs) (fun i σ H'=>(∃v2 v3 v4,σ= [some (.ref l),some (.ref d),v2,v3,v4])/\But1 d (upd H d (.dK [])) H'/\∃kvs' acc',H' d=some (.dK kvs')/\DictT H' kvs' acc'/\acc'.Nodup/\(∀x,x∈acc'↔∃ps∈pss.take i,∃p∈ps,p.1=x))
  ⟨⟨none,none,none,rfl⟩,fun x o _ e=>e,[],[],hd1, .nil,List.nodup_nil,fun x=>by simp⟩ (fun i σ H' _ p=>SqL.of (p.2.1 _ _ ldn (s1 _ _ hl))) ?_ ?_
 . intro i x σ H' ex z_;refine hZq fun q_ e_=> ?_;obtain ⟨⟨v2,v3,v4,rfl⟩,b1,kvs',acc',hd',hD',hnd',hm'⟩:=z_;obtain ⟨u,eu,hu⟩:=hT.get' ex;rw [yo] at eu;obtain ⟨ps,ep,rfl⟩:=yw.mp eu;have mps:=yq ep;have tp0:Kd H H':=(Kd.of_same s1).trans (b1.kd hd1);obtain ⟨au,ys,rfl,hau,hys⟩:=at_t (hu.mono tp0);subst e_;have yl:=hys.len;rw [yi] at yl;have aud:au≠d:=fun q=>by rw [q,hd'] at hau;cases hau
   have hin:∀x∈acc',x∈T:=fun x m=>by
    refine hZq fun q_ e_=> ?_;obtain ⟨qs,mq,p,mp,rfl⟩:=(hm' x).mp m;subst e_;exact (hg qs (zG mq) p mp).mem
   refine ⟨_,rfl,au,rfl,⟨ys,SqT.of hau⟩,?_⟩
   refine jg (xs:=ys) (fun j σ H''=>(∃v3 v4,σ= [some (.ref l),some (.ref d),some (.ref au),v3,v4])/\But1 d H' H''/\∃kvs'' acc'',H'' d=some (.dK kvs'')/\DictT H'' kvs'' acc''/\acc''.Nodup/\(∀x,x∈acc''↔x∈acc'\/∃p∈ps.take j,p.1=x))
    ⟨⟨v3,v4,rfl⟩,fun x o _ e=>e,kvs',acc',hd',hD',hnd',fun x=>by simp⟩ (fun i σ H'' _ p=>SqT.of (p.2.1 _ _ aud hau)) ?_ ?_
   . intro j z σ H2 ez z_;refine hZq fun q_ e_=> ?_;obtain ⟨⟨v3,v4,rfl⟩,b2,kvs2,acc2,hd2,hD2,hnd2,hm2⟩:=z_;have kd2:Kd H' H2:=b2.kd hd';obtain ⟨t',et',ht'⟩:=(hys.mono kd2).get' ez;rw [yo] at et';obtain ⟨⟨tm,fr⟩,eq,rfl⟩:=yw.mp et';obtain ⟨T',x,y,rfl,hT',hx,hy⟩:=c6 ht';subst e_;have g:=hg ps mps _ (yq eq);refine ⟨T',_,rfl,SqT.of hT',rfl,_,_,rfl,_,_,rfl,rfl,?_⟩;refine ⟨_,rfl, .inr (.inr (.inl ⟨rfl, .inl ⟨kvs2,hd2⟩⟩)),_,rfl,x,tm,rfl,hx,g.gt.ty,(by have:tm.depth<=39:=g.dep;omega),g.len,fun z H3 s3 ez3=>⟨_,rfl,?_⟩⟩
     have hd3:=s3 _ _ hd2;have hD3:=hD2.mono (Kd.of_same s3)
     have hin2:∀x∈acc2,x∈T:=fun x m=>by
      rcases (hm2 x).mp m with m|⟨p,mp,rfl⟩
      . exact hin x m
      . exact (hg ps mps p (zG mp)).mem
     have l2:=sub_len hnd2 hin2;refine ⟨d,kvs2,Sum.inr z,x,rfl,rfl,hd3,by rw [hD3.len];omega,fun y' ev=> ?_,fun ev=> ?_⟩
     . have mt:tm∈acc2:=by
        by_cases m:tm∈acc2
        . exact m
        . rw [(hD3.none_iff g.gt ez3).mpr m] at ev;cases ev
       refine ⟨⟨_,_,rfl⟩,b2.trans (But1.of_same s3),kvs2,acc2,hd3,hD3,hnd2,fun x=> ?_⟩;rw [hm2,ay eq];simp only [yN,yD];constructor
       . rintro (h|⟨p,mp,e⟩)
         . exact .inl h
         . exact .inr ⟨p, .inl mp,e⟩
       . rintro (h|⟨p,mp|rfl,e⟩)
         . exact .inl h
         . exact .inr ⟨p,mp,e⟩
         . exact (hm2 x).mp (e▸mt)
     . have mo:=(hD3.none_iff g.gt ez3).mp ev;have tp2:Kd H3 (upd H3 d (.dK (kvs2++ [(Sum.inr z,x)]))):=Dj.Kd.updK hd3;refine ⟨⟨_,_,rfl⟩,(b2.trans (But1.of_same s3)).trans fun x o nx e=>by rw [ae nx];exact e,kvs2++ [(Sum.inr z,x)],acc2++ [tm],a8,Paired.snoc (hD3.mono tp2) ⟨z,rfl,ez3,g.gt,(hx.mono (Kd.of_same s3)).mono tp2⟩,?_,fun x=> ?_⟩
       . rw [List.nodup_append];exact ⟨hnd2,by simp,fun a ma b mb=>by rw [yD.mp mb];exact fun q=>mo (q▸ma)⟩
       . rw [yN,hm2,ay eq];simp only [yN,yD];constructor
         . rintro ((h|⟨p,mp,e⟩)|h)
           . exact .inl h
           . exact .inr ⟨p, .inl mp,e⟩
           . exact .inr ⟨_, .inr rfl,h.symm⟩
         . rintro (h|⟨p,mp|rfl,e⟩)
           . exact .inl (.inl h)
           . exact .inl (.inr ⟨p,mp,e⟩)
           . exact .inr e.symm
   . intro σ H2 z_;refine hZq fun q_ e_=> ?_;obtain ⟨⟨v3,v4,rfl⟩,b2,kvs2,acc2,hd2,hD2,hnd2,hm2⟩:=z_;subst e_;rw [yl,yO] at hm2;refine ⟨⟨_,_,_,rfl⟩,b1.trans b2,kvs2,acc2,hd2,hD2,hnd2,fun x=> ?_⟩;rw [hm2,hm',ay ep];simp only [yN,yD];constructor
     . rintro (⟨qs,mq,h⟩|h)
       . exact ⟨qs, .inl mq,h⟩
       . exact ⟨ps, .inr rfl,h⟩
     . rintro ⟨qs,mq|rfl,h⟩
       . exact .inl ⟨qs,mq,h⟩
       . exact .inr h
 . intro σ H2 z_;refine hZq fun q_ e_=> ?_;obtain ⟨⟨v2,v3,v4,rfl⟩,b2,kvs2,acc2,hd2,hD2,hnd2,hm2⟩:=z_;subst e_;rw [hlen,yO] at hm2;refine ⟨_,rfl, .inr (.inr (.inl ⟨rfl, .inl ⟨kvs2,hd2⟩⟩)),d,kvs2,rfl,rfl,hd2,fun x nx=> ?_⟩;have s3:Same H2 (upd H2 x (cX x d)):=aa nx
   have gts:∀t∈acc2,Gm T t:=fun t m=>by
    refine hZq fun q_ e_=> ?_;obtain ⟨qs,mq,p,mp,rfl⟩:=(hm2 t).mp m;subst e_;exact hg qs mq p mp
   have hle:acc2.length<=T.length:=sub_len hnd2 fun y my=>(gts y my).mem;refine ⟨x,d,kvs2,acc2,rfl,a8,s3 _ _ hd2,hD2.vals.mono (Kd.of_same s3),by omega,fun t m=>⟨yc (gts t m).gt,cY (gts t m).gt.ty,by have:=(gts t m).dep;omega⟩,fun t m u m'=>jz 40 (by have:=(gts t m).dep;omega) (gts t m).gt.ty (gts u m').gt.ty,fun D ws us nD hp hws hup=> ?_⟩
   have sH:Same H (upd (upd H2 x (cX x d)) D (.lst ws)):=fun y o e=>aa nD _ _ (s3 _ _ (b2 y o (aE e nd) (s1 _ _ e)));refine k D ws us _ ?_ sH a8 (hws.mono (Kd.of_same (aa nD))) (hp.nodup_iff.mpr hnd2) fun y=>by rw [hp.mem_iff,hm2]
   have n2:=s3.free nD
   cases e:H D with
   |none=>rfl
   |some o=>rw [b2 D o (aE e nd) (s1 _ _ e)] at n2;cases n2
open Classical in
noncomputable def cw (s:Int) (t:Tr):List Pq->Int
 | []=>0
 |p::r=>if p.1=t then wh p.2 s else cw s t r
theorem nN {s:Int} {t:Tr} {p:Pq}:∀ {a:List Pq},p.1≠t->cw s t (a++ [p])=cw s t a
 | [],h=>by simp [cw,h]
 |q::r,h=>by
  simp only [z6,cw];split
  . rfl
  . exact nN h
theorem sN {s:Int} {t:Tr} {p:Pq}:∀ {a:List Pq},p.1=t->(∀q∈a,q.1≠t)->cw s t (a++ [p])=wh p.2 s
 | [],h,_=>by simp [cw,h]
 |q::r,h,hn=>by
  simp only [z6,cw];rw [if_neg (hn q yn)];exact sN h fun x m=>hn x (ym _ m)
theorem vo {s:Int} {t:Tr} {e:Nat} {M:Nat}:∀ {a:List Pq},(∀p∈a,0 < p.2.2/\p.2.1.natAbs<=M)->(cw s t a).natAbs<=M*s.natAbs
 | [],_=>by simp [cw]
 |q::r,h=>by
  simp only [cw];split
  . exact yC (uP (h q yn).1) (zh _ (h q yn).2)
  . exact vo (e:=e) fun p m=>h p (ym _ m)
theorem dR {te:TE} {i:Nat} {u:TS} {Z:Ends} {σ:L2.St} {H:Hp} (h:te σ H fun v H1=>aL i v σ H1 (u Z)):tSeq (tAsg te (aL i)) u Z σ H:=h
def qm:Sp:=fun vs H Q _=>∃(v:V) (ps:List Pq) (lt:Addr) (ws:List V) (us T:List Tr) (s:Int) (e:Nat),vs= [v, .ref lt, .int s]/\TrAt H v (sumT ps)/\Asc ps/\(∀p∈ps,Gm T p.1/\Gq e p)/\e<=8000/\Big s/\T.length < 64/\
 H lt=some (.lst ws)/\TrsAt H ws us/\(∀t∈us,Gm T t)/\us.length < 64/\∀l H',H l=none->Same H H'->H' l=some (.lst ((us.map fun t=>cw s t ps).map V.int))->Q (.ref l) H'
theorem scCto:FnScope ["pairs","terms","scale","counts"] ["pairs","terms","scale"] (af sCto):= .of
theorem wC {f fS fW:Addr} {fd fdS fdW:FuncData} (F:Fun K "counts_of" "counts_of" sCto f fd)
 (GS:FnOk P w K mg base CX0 41 fS fdS ["term"] (spSt 40)) (kS:PySem.W.keepIn K (.ref fS)=true) (bS:Binds K fdS ["term"] []) (mS:mg "shown_term"=some (.ref fS))
 (GW:FnOk P w K mg base CX0 1 fW fdW ["share","scale"] lW) (kW:PySem.W.keepIn K (.ref fW)=true) (bW:Binds K fdW ["share","scale"] []) (mW:mg "whole_of"=some (.ref fW)):
 FnOk P w K mg base CX0 42 f fd ["pairs","terms","scale"] qm:=by
 refine F.okb scCto fun vs H Q E h=> ?_;refine hZq fun q_ e_=> ?_;obtain ⟨v,ps,lt,ws,us,T,sc,e,rfl,hv,hasc,hps,he,hsc,hT64,hlt,hws,hus,ul,k⟩:=h;subst e_;refine ⟨rfl,fun cdv A outer s hr=> ?_⟩;have hu1:=ya hr;have hr1:Room 1 _:=hr.mono (by decide)
 have nd3:(["term","share","scale"]:List Str).Nodup:=by decide +kernel
 have nd2:(["term","counts"]:List Str).Nodup:=by decide +kernel
 refine ⟨_,ac (psR 3 scCto.nd (rh (NC:= ["term","share","scale"]) (mp:= [none,none,some 2]) (g:=gTup K 2 (bf (aL 0) (bf (aL 1) gNil))) rfl (fc (pv 0))
  (fun _ _ _ _ _=>be (n:=2) rfl (aj (pgA 0 nd3) (aj (pgA 1 nd3) aP))) (fun _ _ _ _ _=>aS)
  (fun _ _ _ _ _=>ai GS hr rfl mS kS bS .nil ax (a0 (pv 0) a9)) (fun _ _ _ _ _=>ai GW hr1 rfl mW kW bW .nil ax (a0 (pv 1) (a0 (pv 2) a9)))))
  (ah (az (aV (NC:= ["term","counts"]) (mp:= [none,some 3]) rfl (aZ (pv 1)) (fun _ _ _ _ _=>pgA 0 nd2) (fun _ _ _ _ _=>aS)
   (fun _ _ _ _ _=>rg hu1 (pv 1) (ai GS hr rfl mS kS bS .nil ax (a0 (pv 0) a9)) ad ⟨rfl,rfl,rfl,rfl⟩)))),?_⟩
 have hL20:(20000:Nat)<=sizeLine:=by decide +kernel
 refine hZq fun q_ e_=> ?_;obtain ⟨au,xs,rfl,hau,hxs⟩:=at_t hv;subst e_;have xl:=hxs.len;rw [yi] at xl;have pl:=nW hasc fun u m=>(hps u m).1.mem;refine dR ?_;refine oI (K':=K) (xs:=xs) (rest:= [some (.int sc)]) (a:=au) rfl (fun Q q=>⟨_,rfl,q⟩) (SqT.of hau) fun L nL=> ?_;refine ⟨fun j acc H'=>Same H H'/\H' L=some (.dK acc)/\acc.length<=j/\∀(t:Tr) (z:Str),Gt t->Dec.cl z=tmC t->(valV acc (Sum.inr z)).getD (.int 0)= .int (cw sc t (ps.take j)),⟨aa nL,a8,yp _,fun t z _ _=>by rw [zg];rfl⟩,fun j acc' H' p=>SqT.of (p.1 _ _ hau),?_,?_⟩
 . rintro j z acc H' hj ⟨s2,hL,hal,hval⟩ ez;refine hZq fun q_ e_=> ?_;obtain ⟨t',et',ht'⟩:=(hxs.mono (Kd.of_same s2)).get' ez;rw [yo] at et';obtain ⟨⟨tm,fr⟩,eq,rfl⟩:=yw.mp et';obtain ⟨T',x,y,rfl,hT',hx,hy⟩:=c6 ht';obtain ⟨g,gq⟩:=hps _ (yq eq);subst e_;have jl:j < ps.length:=(yt.mp eq).1;refine ⟨T',x,y,rfl,SqT.of hT',?_⟩;refine ⟨_,rfl,x,tm,rfl,hx,g.gt.ty,(by have:tm.depth<=39:=g.dep;omega),g.len,fun z H6 s6 ez6=>⟨Sum.inr z,rfl,?_⟩⟩
   refine ⟨_,rfl,_,rfl,y,fr,sc,rfl,hy.mono (Kd.of_same s6),gq.gf.pos,gq.gf.bot.big (by omega),gq.gf.top.big (by omega),hsc,?_⟩
   refine CompD.mk hj (by omega) (s6 _ _ hL) ⟨aF nL (s2.trans s6),a8,?_,fun t z' gt ez'=> ?_⟩
   . have:=fE acc (Sum.inr z) (.int (wh fr sc));omega
   . rw [oP,ay eq];by_cases q:(Sum.inr z':Key)=Sum.inr z
     . rw [if_pos q];have q':=Sum.inr.inj q;subst q';have et:t=tm:=gt.inj g.gt (ez'.symm.trans ez6);subst et;rw [sN (p:=(t,fr)) (t:=t) rfl fun q mq=> ?_]
       . rfl
       . obtain ⟨i,hi,e1⟩:=zf mq;rw [yS] at hi;rw [List.getElem_take] at e1;have:=zd.mp hasc i j (by omega) jl (by omega)
         rw [e1,show ps[j]=(t,fr) from (yt.mp eq).2] at this;exact jP this
     . rw [if_neg q,hval t z' gt ez',nN];intro h;have h':tm=t:=h;subst h';exact q (by rw [Dec.cl_inj (ez'.trans ez6.symm)])
 rintro kvs H1 ⟨s1,hL,hal,hval⟩;rw [xl,yO] at hval;have hlt1:=s1 _ _ hlt;have wl:=hws.len;refine ⟨_,rfl,lt,rfl,⟨ws,SqL.of hlt1⟩,fun D nD=> ?_⟩;refine bU (xs:=ws) (fun j acc H'=>Same H1 H'/\H' D=some (.lst acc)/\acc=((us.take j).map fun t=>cw sc t ps).map V.int) ⟨aa nD,a8,rfl⟩ (fun j acc H' p=>SqL.of (p.1 _ _ hlt1)) ?_ ?_
 . intro j x acc H' hj ex z_;refine hZq fun q_ e_=> ?_;obtain ⟨s2,hD,rfl⟩:=z_;obtain ⟨t,et,ht⟩:=(hws.mono (Kd.of_same (s1.trans s2))).get' ex;subst e_;have g:=hus t (yq et);have hL2:=s2 _ _ hL;refine ⟨_,rfl,L,rfl, .inl ⟨kvs, .inl hL2⟩,?_⟩;refine ⟨_,rfl,x,t,rfl,ht,g.gt.ty,(by have:=g.dep;omega),g.len,fun z H6 s6 ez6=>⟨_,DGet.k (k:=Sum.inr z) (s6 _ _ hL2),?_⟩⟩
   have jl:j < us.length:=(yt.mp et).1;refine CompN.mk hj (by rw [yi,yi,yS];omega) (s6 _ _ hD) ⟨aF nD (s2.trans s6),a8,?_⟩
   rw [hval t z g.gt ez6,ay et];simp
 . rintro acc H2 ⟨s2,hD,rfl⟩;rw [wl,yO] at hD;exact k D H2 (s1.free nD) (s1.trans s2) hD
end
end K45
namespace Zp
open PySem
section
variable {prog:Program} {w:World} {A:Around} {E:Value->Shared->Prop} {s:Shared} {k:Src} {z TI TO i1 i2 l1 l2:Addr} {j:Nat} {xs ys:Array Value} {x y a b:Value}
end
end Zp
namespace L2
open PySem PySem.Spec PyProof.Rows Zp
section
variable {X:Cx}
end
end L2
namespace Dj
open PySem PySem.Spec PyProof.Rows L2 Tre
noncomputable def kB (P:Program) (w:World) (K:PySem.W.Frag) (mp:List (Option Nat)) (wi:TI) (g:TG) (tc:TT) (tk te:TE):TE:=fun σ H Q=>wi σ H fun J H1=>∀D,H1 D=none->
 ∃W:Nat->Nat->List Ent->Hp->Prop,(∃m,W 0 m [] (upd H1 D (dJ P w D [])))/\∀i m acc H2,W i m acc H2->
  (J.stop i H2/\Q (.ref D) H2)\/
  (J.go i H2/\∀x H3,J.yld i H2 x H3->g x (subS mp σ) H3 fun σ4 H4=>Ext (subS mp σ) σ4/\tc σ4 H4 fun b H5=>if b=true then tk σ4 H5 fun y H6=>∃b k,y= .ref b/\te σ4 H6 fun v H7=>DJ P w K H7 D acc/\KeyAt K H7 k b/\acc.length < sizeLine/\∃m',m' < m/\W (i+1) m' (putJ acc k b v) (upd H7 D (dJ P w D (putJ acc k b v)))
   else∃m',m' < m/\W (i+1) m' acc H5)
section
variable {X:Cx} {pins:List (Addr×Obj)} {σ:L2.St} {H:Hp} {s:Shared}
variable {kx vx target iter:Expr} {ifs:List Expr} {scope:Scope} {NC:List Str} {mp:List (Option Nat)} {pos:Pos} {wi:TI} {g:TG} {tc:TT} {tk te:TE}
theorem pe_compJ (hcalm:X.calm=true) (hu:X.A.units+30 < cLine) (hi:PI X target iter wi) (hg:∀C s H fp pn,PG (XC X scope NC C s H fp pn) target g) (ht:∀C s H fp pn,PTs (XC X scope NC C s H fp pn) ifs tc) (hkx:∀C s H fp pn,PE (XC X scope NC C s H fp pn) kx tk) (he:∀C s H fp pn,PE (XC X scope NC C s H fp pn) vx te)
 (hl:mp.length=NC.length:=by rfl) (hm:gM X.N NC mp scope.names X.env.scope.names=true:=by rfl) (hc:bG scope.names X.env.cells=true:=by rfl) (hk:scope.kind= .function:=by rfl)
 (hnc:∀y∈scope.names,y.2≠ .cell:=by decide +kernel) (hnm:∀y∈scope.names,y.2= .local->scope.names.lookup y.1=some .local:=by decide +kernel) (hs:∀x,foldedSetIterable iter X.env x=pure x:=by intro _;rfl):
 PE X (.DictComp kx vx [⟨target,iter,ifs,0⟩] scope pos) (kB X.prog X.w X.K mp wi g tc tk te):=by
 intro pins s σ H Q I h;rw [arm_eval_DictComp];refine wpAny_comprehension_free (use:=none) rfl hs (ge hc) hk hnm (thn (hi pins s σ H _ I h) fun v s1 h1=>thn h1 fun itv s2 h2=> ?_);refine hZq fun q_ e_=> ?_;obtain ⟨it,fp,tn,J,H2,e,I2,T,st2,f2,W⟩:=h2;subst e_;subst e;refine wpAny_newObj_type ?_;have nD:H2 s2.heap.objs.size=none:=I2.hok.fresh (yp _)
 have I3:Inv X pins σ (upd H2 s2.heap.objs.size (dJ X.prog X.w s2.heap.objs.size [])) {s2 with heap:=s2.heap.push {cls:= .type "dict",data:= .dict #[]}}:=
  I2.laid (t':=s2.toks) (fun b u e=>Heap.get?_push_of_some _ e) (yp _) (k8 s2.heap I2.big)
 obtain ⟨W,⟨m0,w0⟩,turn⟩:=W _ nD
 have lt2:∀b∈fp,b < s2.heap.objs.size:=fun b hb=>by
  obtain ⟨o,e,_⟩:=T.obj 0 _ st2 b hb;exact Heap.lt_size e
 have nDf:∀b∈fp,b≠s2.heap.objs.size:=fun b hb=>yA (lt2 b hb)
 have f3:∀b∈fp,FpOk X pins (upd H2 s2.heap.objs.size (dJ X.prog X.w s2.heap.objs.size [])) b:=fun b hb=>by
  obtain ⟨g0,g1⟩:=f2 b hb;exact ⟨by rw [ae (nDf b hb)];exact g0,g1⟩
 have st3:tn 0 (s2.heap.push {cls:= .type "dict",data:= .dict #[]}):=T.keep 0 _ _ st2 fun b _ o e=>Heap.get?_push_of_some _ e
 have lt3:∀b∈fp,b < (s2.heap.push {cls:= .type "dict",data:= .dict #[]}).objs.size:=fun b hb=>by
  rw [Heap.size_push];exact zc (lt2 b hb)
 generalize hD:s2.heap.objs.size=D at*;generalize hs3:({s2 with heap:=s2.heap.push {cls:= .type "dict",data:= .dict #[]}}:Shared)=s3 at*;have hh3:s3.heap=s2.heap.push {cls:= .type "dict",data:= .dict #[]}:=by rw [<-hs3]
 rw [<-hh3] at st3 lt3;generalize hH3:upd H2 D (dJ X.prog X.w D [])=H3 at*;refine wpAny_newFunctionEnv (around:=some X.env) hnc (by intro y hy;cases hy) (fun h4 hn4 hsb4=> ?_) hk
 have kp4:∀b o,s3.heap.get? b=some o->h4.get? b=some o:=fun b o e=>hsb4.extBut b o (yA (Heap.lt_size e)) (Heap.get?_push_of_some _ e);have I4:=I3.block (tk:=s3.toks+([]:List (Str×Value)).length) f3 lt3 hk hnc hc hl hm kp4 hn4;have st4:tn 0 h4:=T.keep 0 _ _ st3 fun b _ o e=>kp4 b o e
 have fin:∀(s5:Shared) (σ5:L2.St) (H5:Hp),Inv (XC X scope NC s3.heap.objs.size s3 H3 fp (X.pn++pins)) [] σ5 H5 s5->Q (.ref D) H5->compPost (model X.prog X.w) X.A X.xe none (EP X pins σ Q) (.ref D) s3.heap.objs.size (.ok .next) s5:=by
  intro s5 σ5 H5 I5 q5;obtain ⟨m5,hn5,_⟩:=id I5.loc;refine ⟨m5,hn5,fun h6 sb6=>⟨.ref D,H5,?_,rfl,q5⟩⟩;have kp6:∀b o,b≠s3.heap.objs.size->s5.heap.get? b=some o->h6.get? b=some o:=fun b o hb e=>sb6.extBut b o hb e;have nC:∀b o,s3.heap.get? b=some o->b≠s3.heap.objs.size:=fun b o e=>yA (Heap.lt_size e);have un:Un (frs X.stack) fp H3 H5 s3.heap s5.heap:=I5.base;have hfree:H5 s3.heap.objs.size=none:=I5.free;refine I3.call' (s':= {s5 with heap:=h6}) (ch:=fp) I5.os ⟨fun b o e n hb hx=>kp6 b o (nC b o e) (un.keep b o e n hb hx),fun b o e n hb hx=> ?_,un.free,fun b o e hx=> ?_,un.tups,un.frzs,un.tbls⟩ ?_ I5.bare (fun b hb=> ?_)
  . obtain ⟨sl,e1⟩:=un.slot b o e n hb hx;exact ⟨sl,kp6 b _ (nC b o e) e1⟩
  . obtain ⟨o',e1⟩:=un.there b o e hx;exact ⟨o',kp6 b o' (nC b o e) e1⟩
  . intro b o e;have nb:b≠s3.heap.objs.size:=fun z=>by rw [z,hfree] at e;cases e
    refine (I5.hok b o e).stay (fun c v hc' r=>kp6 c v ?_ r) (fun _ r=>r) fun _ _ r=>r;rcases hc' with z|z
    . rw [z];exact nb
    . intro y;rw [y,hfree] at z;cases z
  . refine hZq fun q_ e_=> ?_;obtain ⟨g0,g1,g2,g3,g4,g5⟩:=f3 b hb;subst e_;exact ⟨g3,g1,g4,g5⟩
 have loop:codeAny (model X.prog X.w) X.A (.compLoop (.DictComp kx vx [⟨target,iter,ifs,0⟩] scope pos) 0 (.ref it) (.ref D) (compEnvC scope (cg scope.names X.env.cells []) s3.heap.objs.size X.env)) (compPost (model X.prog X.w) X.A X.xe none (EP X pins σ Q) (.ref D) s3.heap.objs.size)
  {s3 with heap:=h4,toks:=s3.toks+([]:List (Str×Value)).length}:=by
  refine fQ (fun n s'=>∃i acc σ' H',Inv (XC X scope NC s3.heap.objs.size s3 H3 fp (X.pn++pins)) [] σ' H' s'/\Ext (subS mp σ) σ'/\tn i s'.heap/\(∀b∈fp,H' b=none)/\W i n acc H') ?_ m0
   ⟨0,[],subS mp σ,H3,I4,fun _ _ e=>e,st4,fun b hb=>(f3 b hb).1,w0⟩
  intro n s5 z_;refine hZq fun q_ e_=> ?_;obtain ⟨i,acc,σ5,H5,I5,hσ,st5,fr5,w5⟩:=z_;subst e_;have I5':Inv (XC X scope NC s3.heap.objs.size s3 H3 fp (X.pn++pins)) [] (subS mp σ) H5 s5:=I5.weak (by rw [I5.len];unfold subS;rw [yi];exact hl) hσ
  have fpk:∀ {H':Hp},(∀b∈fp,H' b=none)->∀b∈fp,FpOk (XC X scope NC s3.heap.objs.size s3 H3 fp (X.pn++pins)) [] H' b:=fun hn b hb=>by
   refine hZq fun q_ e_=> ?_;obtain ⟨g0,g1,g2,g3,g4,g5⟩:=f3 b hb;subst e_;refine ⟨hn b hb,yA (lt3 b hb),?_, .inl hb,(I4.ok.exf b hb).2,fun p hp=>g5 p (by simpa using hp)⟩
   exact I4.ok.exfs b hb
  rcases turn i n acc H5 w5 with ⟨stop,q⟩|⟨go,step⟩
  . refine thn (T.done (XC X scope NC s3.heap.objs.size s3 H3 fp (X.pn++pins)) rfl rfl rfl hcalm i [] s5 _ H5 (fun _ _=>False) I5' (fpk fr5) st5 stop) fun r s6 ⟨hr,I6⟩=> ?_;subst hr;exact fin s6 _ H5 I6 q
  . refine thn (T.item (XC X scope NC s3.heap.objs.size s3 H3 fp (X.pn++pins)) rfl rfl rfl hcalm i [] s5 _ H5 (fun _ _=>False) I5' (fpk fr5) st5 go) fun r s6 ⟨u,hr,h6⟩=> ?_;subst hr;refine thn h6 fun _ s7 ⟨x,H7,I7,r7,y7,st7,fr7⟩=> ?_;have I7':=I7.pinned (fpk fr7) (T.obj _ _ st7);refine thn (hg _ _ _ _ _ _ s7 _ H7 x u _ I7' r7 (step x H7 y7)) fun _ s8 ⟨σ8,H8,I8,ext8,q8⟩=> ?_;refine thn (ht _ _ _ _ _ _ s8 σ8 H8 _ I8 q8) fun ok s9 ⟨H9,I9,q9⟩=> ?_
    have again:∀ {σ':L2.St} {H':Hp} {s':Shared} {acc':List Ent} {m':Nat},Inv (XC X scope NC s3.heap.objs.size s3 H3 fp (X.pn++pins)) ([]++dw fp s7.heap) σ' H' s'->Ext (subS mp σ) σ'->m' < n->W (i+1) m' acc' H'->
     ∃m,m < n/\∃i acc σ' H',Inv (XC X scope NC s3.heap.objs.size s3 H3 fp (X.pn++pins)) [] σ' H' s'/\Ext (subS mp σ) σ'/\tn i s'.heap/\(∀b∈fp,H' b=none)/\W i m acc H':=by
     intro σ' H' s' acc' m' I' hσ' hm' w';refine ⟨m',hm',i+1,acc',σ',H',I'.unpinned,hσ',T.keep _ _ _ st7 fun b hb o e=>(I'.pin (b,o) (yB _ (yB _ (aX hb e)))).1,fun b hb=> ?_,w'⟩;obtain ⟨o,e,d⟩:=T.obj _ _ st7 b hb;exact (I'.pin (b,o) (yB _ (yB _ (aX hb e)))).2.1
    cases ok with
    |false=>
     rw [if_neg yE] at q9;rw [if_neg yE];obtain ⟨m',hm',w'⟩:=q9;exact again I9 ext8 hm' w'
    |true=>
     rw [if_pos rfl] at q9;rw [if_pos rfl];refine thn (hkx _ _ _ _ _ _ s9 σ8 H9 _ I9 q9) fun kv s10 ⟨y,H10,I10,r10,b,k,ek,qv⟩=> ?_;subst ek;obtain rfl:kv=Value.ref b:=r10;refine thn (he _ _ _ _ _ _ s10 σ8 H10 _ I10 qv) fun v s11 ⟨z,H11,I11,r11,d11,kb,hz,m',hm',w'⟩=> ?_;refine hZq fun q_ e_=> ?_;obtain ⟨z1,hd1,xs1,rel1,dd1⟩:=fP I11.hok I11.kIn d11;subst e_;have hz1:xs1.length<=sizeLine:=by rw [<-Paired.length rel1];exact z1
     have hl1:(putJ acc k b z).length<=sizeLine:=by have:=fG acc k b z;omega
     refine wpAny_dictSet_heap (hsz:=hz1) (by show X.A.units+20 < cLine;omega) (kb.is I11.hok I11.kIn) dd1 fun h' dd' hs=> ?_
     refine hZq fun q_ e_=> ?_;obtain ⟨q,es,ep,hq,h2,h3,h4,_,h5⟩:=dd';subst e_;exact again (ga I11 (by rw [d11.at_];exact True.intro) hs ⟨q,hq⟩ (lF hl1 hd1 (rel1.put k r11) ⟨q,es,ep,hq,h2,h3,h4,h5⟩)) ext8 hm' w'
 exact codeAny_compStart_dict loop (T.self _ 0 _ _ _ st4 loop)
end
end Dj
namespace L2
open PySem PySem.Spec PyProof.Rows
theorem lK {K:PySem.W.Frag} {a:Addr} {mp:List (Option Nat)} {ta:TA} {g:TG} {tc:TT} {te:TE} {Q:VK} {σ:L2.St} {H1:Hp} {xs:List V}
 (ha:∀Q:List V->Hp->Prop,Q [.ref a] H1->ta σ H1 Q) (h1:SqL K H1 a xs)
 (h:∀D,H1 D=none->∃Pv:Nat->List V->Hp->Prop,Pv 0 [] (upd H1 D (.lst []))/\(∀i acc H,Pv i acc H->SqL K H a xs)/\
  (∀i T x acc H,i < xs.length->i < sizeLine->Pv i acc H->xs[i]?=some x->H T=none->g (.ref T) (subS mp σ) (upd H T (.tup [.int i,x])) fun σ4 H4=>Ext (subS mp σ) σ4/\tc σ4 H4 fun b H5=>if b=true then te σ4 H5 (CompN xs.length i D acc Pv) else CompS xs.length i acc Pv H5)/\∀acc H,Pv xs.length acc H->Q (.ref D) H):
 cu mp (vi K ta) g tc te σ H1 Q:=by
 unfold cu;refine ha _ ⟨a,xs,rfl,h1,fun D nD=> ?_⟩;obtain ⟨Pv,p0,pq,ps,pd⟩:=h D nD;refine ⟨fun i m acc H=>m=xs.length - i/\i<=xs.length/\Pv i acc H,⟨xs.length,by simp,yJ _,p0⟩,?_⟩
 rintro i m acc H ⟨rfl,hi,p⟩;have q1:=pq i acc H p;by_cases hlt:i < xs.length
 . refine .inr ⟨⟨xs,xs[i],q1,by simp [hlt]⟩,?_⟩
   rintro v H' ⟨T,x,rfl,nT,rfl,y1,z⟩;exact ps i T x acc H hlt z p (y1 xs q1) nT
 . have ei:i=xs.length:=by omega
   subst ei;exact .inl ⟨⟨xs,q1,yp _⟩,pd acc H p⟩
theorem iu {K:PySem.W.Frag} {a b:Addr} {mp:List (Option Nat)} {ta:TA} {g:TG} {tc:TT} {te:TE} {Q:VK} {σ:L2.St} {H1:Hp} {xs ys:List V} (hl:xs.length<=ys.length)
 (ha:∀Q:List V->Hp->Prop,Q [.ref a, .ref b] H1->ta σ H1 Q) (h1:SqL K H1 a xs) (h2:SqL K H1 b ys)
 (h:∀D,H1 D=none->∃Pv:Nat->List V->Hp->Prop,Pv 0 [] (upd H1 D (.lst []))/\(∀i acc H,Pv i acc H->SqL K H a xs/\SqL K H b ys)/\
  (∀i T x y acc H,i < xs.length->i < sizeLine->Pv i acc H->xs[i]?=some x->ys[i]?=some y->H T=none->g (.ref T) (subS mp σ) (upd H T (.tup [x,y])) fun σ4 H4=>Ext (subS mp σ) σ4/\tc σ4 H4 fun b H5=>if b=true then te σ4 H5 (CompN xs.length i D acc Pv) else CompS xs.length i acc Pv H5)/\∀acc H,Pv xs.length acc H->Q (.ref D) H):
 cu mp (iZip .lst K ta) g tc te σ H1 Q:=by
 unfold cu;refine ha _ ⟨a,b,xs,ys,rfl,h1,h2,fun D nD=> ?_⟩;refine hZq fun q_ e_=> ?_;obtain ⟨Pv,p0,pq,ps,pd⟩:=h D nD;subst e_;refine ⟨fun i m acc H=>m=xs.length - i/\i<=xs.length/\Pv i acc H,⟨xs.length,by simp,yJ _,p0⟩,?_⟩
 rintro i m acc H ⟨rfl,hi,p⟩;obtain ⟨q1,q2⟩:=pq i acc H p;by_cases hlt:i < xs.length
 . refine .inr ⟨⟨xs,ys,xs[i],ys[i]'(by omega),q1,q2,by simp [hlt],yj _⟩,?_⟩
   intro v H' z_;refine hZq fun q_ e_=> ?_;obtain ⟨T,x,y,rfl,nT,rfl,y1,y2,z⟩:=z_;subst e_;exact ps i T x y acc H hlt z p (y1 xs q1) (y2 ys q2) nT
 . have ei:i=xs.length:=by omega
   subst ei;exact .inl ⟨⟨xs,ys,q1,q2,yp _⟩,pd acc H p⟩
theorem si {K:PySem.W.Frag} {a b:Addr} {xs ys:List V} {g:TG} {tb:TS} {D:Ends} {σ:St} {H:Hp} (hl:xs.length<=ys.length) (Pv:Nat->St->Hp->Prop) (h0:Pv 0 σ H) (hq:∀i σ H,i<=xs.length->Pv i σ H->SqL K H a xs/\SqL K H b ys)
 (hs:∀i T x y σ H,xs[i]?=some x->ys[i]?=some y->i < sizeLine->Pv i σ H->H T=none->g (.ref T) σ (upd H T (.tup [x,y])) fun σ2 H2=>tb {D with nx:=Pv (i+1),ct:=Pv (i+1),bk:=D.nx} σ2 H2) (hd:∀σ H,Pv xs.length σ H->D.nx σ H):
 ∃W:Nat->Nat->St->Hp->Prop,(∃m,W 0 m σ H)/\∀i m σ H,W i m σ H->
  ((Itz .lst K a b).stop i H/\D.nx σ H)\/((Itz .lst K a b).go i H/\∃N:St->Hp->Prop,(∀σ' H',N σ' H'->∃m',m' < m/\W (i+1) m' σ' H')/\∀x H',(Itz .lst K a b).yld i H x H'->g x σ H' fun σ2 H2=>tb {D with nx:=N,ct:=N,bk:=D.nx} σ2 H2):=by
 refine ⟨fun i m σ H=>m=xs.length - i/\i<=xs.length/\Pv i σ H,⟨xs.length,by simp,yJ _,h0⟩,?_⟩
 rintro i m σ H ⟨rfl,hi,p⟩;obtain ⟨q1,q2⟩:=hq i σ H hi p;by_cases hlt:i < xs.length
 . refine .inr ⟨⟨xs,ys,xs[i],ys[i]'(by omega),q1,q2,by simp [hlt],yj _⟩,Pv (i+1),fun σ' H' p'=>⟨xs.length - (i+1),by omega,rfl,hlt,p'⟩,?_⟩
   rintro v H' ⟨T,x,y,rfl,nT,rfl,y1,y2,z⟩;exact hs i T x y σ H (y1 xs q1) (y2 ys q2) z p nT
 . have ei:i=xs.length:=by omega
   subst ei;exact .inl ⟨⟨xs,ys,q1,q2,yp _⟩,hd σ H p⟩
end L2
namespace Dj
open PySem PySem.Spec PyProof.Rows L2 Tre
noncomputable def CompJ (P:Program) (w:World) (K:PySem.W.Frag) (n i:Nat) (D:Addr) (acc:List Ent) (Pv:Nat->List Ent->Hp->Prop) (k:List Tk.KT) (b:Addr):VK:=fun v H7=>DJ P w K H7 D acc/\KeyAt K H7 k b/\acc.length < sizeLine/\∃m',m' < n - i/\(m'=n - (i+1)/\i+1<=n/\Pv (i+1) (putJ acc k b v) (upd H7 D (dJ P w D (putJ acc k b v))))
theorem CompJ.mk {P:Program} {w:World} {K:PySem.W.Frag} {n i:Nat} {D:Addr} {acc:List Ent} {Pv:Nat->List Ent->Hp->Prop} {k:List Tk.KT} {b:Addr} {v:V} {H7:Hp} (hi:i < n) (hl:acc.length < sizeLine) (h1:DJ P w K H7 D acc) (hk:KeyAt K H7 k b) (h2:Pv (i+1) (putJ acc k b v) (upd H7 D (dJ P w D (putJ acc k b v)))):CompJ P w K n i D acc Pv k b v H7:=
 ⟨h1,hk,hl,n - (i+1),by omega,rfl,hi,h2⟩
theorem comp_zipJ {P:Program} {w:World} {K K':PySem.W.Frag} {a b:Addr} {mp:List (Option Nat)} {ta:TA} {tk te:TE} {Q:VK} {σ rest:L2.St} {H1:Hp} {xs ys:List V} (e:subS mp σ=none::none::rest) (hl:xs.length<=ys.length)
 (ha:∀Q:List V->Hp->Prop,Q [.ref a, .ref b] H1->ta σ H1 Q) (h1:SqL K H1 a xs) (h2:SqL K H1 b ys)
 (h:∀D,H1 D=none->∃Pv:Nat->List Ent->Hp->Prop,Pv 0 [] (upd H1 D (dJ P w D []))/\(∀i acc H,Pv i acc H->SqL K H a xs/\SqL K H b ys)/\
  (∀i T x y acc H,i < xs.length->Pv i acc H->xs[i]?=some x->ys[i]?=some y->H T=none->tk (some x::some y::rest) (upd H T (.tup [x,y])) fun yk H6=>∃b' k,yk= .ref b'/\te (some x::some y::rest) H6 (CompJ P w K xs.length i D acc Pv k b'))/\∀acc H,Pv xs.length acc H->Q (.ref D) H):
 kB P w K mp (iZip .lst K ta) (gTup K' 2 (bf (aL 0) (bf (aL 1) gNil))) cZ tk te σ H1 Q:=by
 unfold kB;rw [e];refine ha _ ⟨a,b,xs,ys,rfl,h1,h2,fun D nD=> ?_⟩;refine hZq fun q_ e_=> ?_;obtain ⟨Pv,p0,pq,ps,pd⟩:=h D nD;subst e_;refine ⟨fun i m acc H=>m=xs.length - i/\i<=xs.length/\Pv i acc H,⟨xs.length,by simp,yJ _,p0⟩,?_⟩
 rintro i m acc H ⟨rfl,hi,p⟩;obtain ⟨q1,q2⟩:=pq i acc H p;by_cases hlt:i < xs.length
 . refine .inr ⟨⟨xs,ys,xs[i],ys[i]'(by omega),q1,q2,by simp [hlt],yj _⟩,?_⟩
   intro v H' z_;refine hZq fun q_ e_=> ?_;obtain ⟨T,x,y,rfl,nT,rfl,y1,y2,z⟩:=z_;subst e_;exact ⟨T,[x,y],rfl,SqT.of a8,rfl,x,[y],rfl,y,[],rfl,rfl,ext2,ps i T x y acc H hlt p (y1 xs q1) (y2 ys q2) nT⟩
 . have ei:i=xs.length:=by omega
   subst ei;exact .inl ⟨⟨xs,ys,q1,q2,yp _⟩,pd acc H p⟩
end Dj
namespace L2
open PySem PySem.Spec PyProof.Rows
theorem oz {P:Program} {w:World} {K:PySem.W.Frag} {mg mb:Str->Option Value} {CX:CXT} {k:Nat} {fa a:Addr} {fd:FuncData} {x:Str} {sp:Sp} {s₁:Shared} {vs:List Value} {ns:List Int}
 (KX:K.In s₁.heap) (hns:s₁.heap.Ns mainGlobals mg) (hb:s₁.heap.Ns builtinsNs mb) (hbb:∀x:Str,x≠"__name__"->mb x=bootBuiltins x) (hlim:s₁.heap.NoLimit) (hg:s₁.gens= #[])
 (ha:s₁.heap.get? a=some {cls:= .type "list",data:= .seq vs.toArray}) (hi:IntsAre vs ns) (hl:ns.length<=sizeLine) (hr:Room k callerA)
 {T0 c0:Addr} (hT0:s₁.heap.get? T0=some (PySem.W.tabObj #[])) (kT0:K.lookup T0=none) (cT0:PySem.W.codeHdIn K c0 T0=true) (hbm:s₁.heap.BuiltinsAt mg T0)
 (F:∀base:Heap,K.In base->base.Ns mainGlobals mg->base.BuiltinsAt mg T0->FnOk P w K mg base CX k fa fd [x] sp) (hbind:∀(s:Shared) (u:Value),BindsTo s fd ⟨[u],[]⟩ [(x,u)])
 (hsp:∀H:Hp,H T0=some (.tbl #[])->SqL K H a (ns.map V.int)->sp [.ref a] H (fun v _=>v= .bl true) fun _ _ _=>False)
 (hCX:∀H e s',CX [] H s₁ (fun _ _ _=>False) e s'->False):
 codeAny (model P w) callerA (.call (.ref fa) ⟨[.ref a],[]⟩) (fun r s'=>r= .ok (.ret (.bool true))/\OldK s₁.heap s'.heap/\s'.os=s₁.os/\AllBare s'.gens) s₁:=by
 have rv:=i5 hi;have lenV:=hi.length
 have core:∀H:Hp,Only H->SqL K H a (ns.map V.int)->HOk P w H s₁.heap->(∀b,H b≠none->b=a)->(H a≠none->K.lookup a=none)->
  codeAny (model P w) callerA (.call (.ref fa) ⟨[.ref a],[]⟩) (fun r s'=>r= .ok (.ret (.bool true))/\OldK s₁.heap s'.heap/\s'.os=s₁.os/\AllBare s'.gens) s₁:=by
  intro H₁ hO hS₁ hok₁ hA₁ hK
  have aT:a≠T0:=fun z=>by
   rw [<-z,ha] at hT0;cases hT0
  have hTn:H₁ T0=none:=by
   cases q:H₁ T0 with
   |none=>rfl
   |some u=>exact absurd (hA₁ T0 (by rw [q];simp)).symm aT
  obtain ⟨H,eH⟩:∃H,H=upd H₁ T0 (.tbl #[]):=⟨_,rfl⟩;have hHT:H T0=some (.tbl #[]):=by rw [eH];exact a8
  have hH:∀b,b≠T0->H b=H₁ b:=fun b n=>by rw [eH];exact ae n
  have hA:∀b,H b≠none->b=a\/b=T0:=fun b n=>by
   by_cases z:b=T0
   . exact .inr z
   . exact .inl (hA₁ b (by rw [<-hH b z];exact n))
  have hS:SqL K H a (ns.map V.int):=by
   rcases hS₁ with (h|⟨o,h⟩)|h
   . exact .inl (.inl ((hH a aT).trans h))
   . exact .inl (.inr ⟨o,(hH a aT).trans h⟩)
   . exact .inr h
  have hok:HOk P w H s₁.heap:=fun b u e=>by
   by_cases hb:b=T0
   . subst hb;rw [hHT] at e;cases e;exact hT0
   . rw [hH b hb] at e;exact (hok₁ b u e).stay (fun c v _ q=>q) (fun c q=>by rw [hH c (fun z=>by rw [z,hTn] at q;cases q)];exact q) fun c xs q=>by rw [hH c (fun z=>by rw [z,hTn] at q;cases q)];exact q
  have base_of:∀ {b:Addr} {o:Obj},s₁.heap.get? b=some o->H b=none->(hidT s₁.heap H).get? b=some o:=fun e n=>rZ e n
  have noA:∀ {b:Addr} {o:Obj} {es:Array DictEntry} {ep:Nat},s₁.heap.get? b=some o->o.data= .dict es ep->H b=none:=fun {b o es ep} e d=>by
   cases q:H b with
   |none=>rfl
   |some u=>
    rcases hA b (by rw [q];simp) with e'|e'
    . subst e';rw [ha] at e;cases e;have d':Data.seq vs.toArray _=Data.dict es ep:=d;cases d'
    . subst e';rw [hT0] at e;cases e;cases d
  have nsK:∀ {b:Addr} {m:Str->Option Value},s₁.heap.Ns b m->(hidT s₁.heap H).Ns b m:=fun {b m} ⟨o,es,ep,e,d,r⟩=>⟨o,es,ep,base_of e (noA e d),d,r⟩
  have hKb:K.In (hidT s₁.heap H):=fun b o e=>base_of (KX b o e) (by
   cases q:H b with
   |none=>rfl
   |some u=>
    rcases hA b (by rw [q];simp) with e'|e'
    . subst e';rw [hK (by rw [<-hH b aT,q];simp)] at e;cases e
    . subst e'
      rw [kT0] at e;cases e)
  have hM:Mod K mg (hidT s₁.heap H):=⟨hKb,nsK hns,⟨mb,nsK hb,hbb⟩,let ⟨mc,h1,h2⟩:=hlim;⟨mc,nsK h1,h2⟩⟩
  have hbm':(hidT s₁.heap H).BuiltinsAt mg T0:=by
   refine hZq fun q_ e_=> ?_;obtain ⟨bm,ob,b1,b2,b3,b4,b5,b6,b7,b8⟩:=hbm;subst e_;refine ⟨bm,ob,b1,b2,b3,b4,base_of b5 ?_,b6,b7,b8⟩
   cases q:H bm with
   |none=>rfl
   |some u=>
    rcases hA bm (by rw [q];simp) with e'|e'
    . subst e';rw [ha] at b5;cases b5;cases b8
    . exact absurd e' b4
  have e0:Env0 P w K mg (hidT s₁.heap H) callerA [] s₁ H:=⟨rfl,hM,fun b o e=>⟨(mw e).1, .inl (mw e).2⟩,Nat.le_of_eq (oB _ _),trivial,fun b hb=>absurd (show b∈([]:List Addr) from hb) (by simp),hok, .of_eq hg⟩
  refine codeAny_mono ((F _ hKb (nsK hns) hbm').run callerA [] s₁ H ⟨[.ref a],[]⟩ [.ref a] [.ref a] _ _ hr e0 (hbind s₁ (.ref a)) (.cons rfl .nil) (hsp H hHT hS)) fun r s' h=> ?_
  cases r with
  |error e=>exact (hCX H e s' h).elim
  |ok fl=>
   cases fl with
   |next=>exact False.elim h
   |brk=>exact False.elim h
   |cont=>exact False.elim h
   |ret u=>
    refine hZq fun q_ e_=> ?_;obtain ⟨v,H',os,bare,un,hok',r',q⟩:=h;subst e_;have q':v= .bl true:=q;subst q';obtain rfl:u=Value.bool true:=r';have htab:=((PySem.W.codeHd_of_K KX cT0).tab hT0).isCodeTable;obtain ⟨more,hm⟩:=un.tbls T0 _ hHT;have hm':=hok' T0 _ hm
    suffices old:∀b o,b≠T0->s₁.heap.get? b=some o->s'.heap.get? b=some o by
     refine ⟨rfl,⟨fun b o e=> ?_,fun b o e=> ?_⟩,os,bare⟩
     . by_cases hb:b=T0
       . subst hb;rw [hT0] at e;cases e;exact .inr (.inl ⟨htab,rfl, #[],more,rfl,hm'⟩)
       . exact .inl (old b o hb e)
     . by_cases hb:b=T0
       . subst hb;exact ⟨_,hm'⟩
       . exact ⟨o,old b o hb e⟩
    intro b o hb e
    cases q:H b with
    |none=>exact un.keep b o e (.inl q) (by intro z;exact absurd (show b∈([]:List Addr) from z) (by simp)) (by simp)
    |some u=>
     rw [hH b hb] at q;rcases hO b with z|⟨ob,xs,z⟩
     . rw [q] at z;cases z
     . have z2:=un.frzs b ob _ ((hH b hb).trans z);obtain ⟨e1,_⟩:=hok₁ b _ z;obtain ⟨e2,_⟩:=hok' b _ z2;rw [e] at e1;cases e1;exact e2
 cases hk:K.lookup a with
 |some o=>
  have e:=KX a o hk;rw [ha] at e;cases e;refine core (fun _=>none) (fun _=> .inl rfl) (.inr ⟨_,vs.toArray,_,hk,rfl,rfl,rfl,by rw [yu,lenV];exact hl,by simpa using rv⟩) (fun b u z=>by have z':(none:Option HO)=some u:=z;cases z') (fun b z=>absurd rfl z) fun z=>absurd rfl z
 |none=>
  refine core (fun b=>if b=a then some (.frz {cls:= .type "list",data:= .seq vs.toArray} (.lst (ns.map V.int))) else none) (fun b=> ?_) (.inl (.inr ⟨{cls:= .type "list",data:= .seq vs.toArray},if_pos rfl⟩)) (fun b u z=> ?_) (fun b z=> ?_) fun _=>hk
  . by_cases hb:b=a
    . exact .inr ⟨_,_,if_pos hb⟩
    . exact .inl (if_neg hb)
  . by_cases hb:b=a
    . have z':=(if_pos hb).symm.trans z;cases z';subst hb;exact ⟨ha,by rw [yi];exact hl,vs,_,rv,ha⟩
    . have z':=(if_neg hb).symm.trans z;cases z'
  . by_cases hb:b=a
    . exact hb
    . exact absurd (if_neg hb) z
theorem walk_ofT {l:PySem.W.OpenLaw} {n k:Nat} {q:Program} {loose:List Str} {XP:(Str->Option Value)->Heap->Prop} {YP:World->Heap->Prop} {d:DefRec} {K:Params->PySem.W.Frag} {CX:World->CXT} {sp:World->Addr->Sp} {T0:Addr} {x:Str}
 (hn:l.most=some n) (hn2:n<=sizeLine) (hdf:d.params.defaults= []) (hr:Room k callerA)
 (hY:∀(w:World) (h:Heap),YP w h->(K w.params).In h) (hYT:∀(w:World) (h:Heap),YP w h->h.get? T0=some (PySem.W.tabObj #[]))
 (F:∀(w:World) (mg:Str->Option Value) (fa:Addr) (h:Heap),(K w.params).In h->h.Ns mainGlobals mg->mg d.name=some (.ref fa)->
  ∃(c0:Addr),(K w.params).lookup T0=none/\PySem.W.codeHdIn (K w.params) c0 T0=true/\∃fd:FuncData,(∀(s:Shared) (u:Value),BindsTo s fd ⟨[u],[]⟩ [(x,u)])/\
   ∀base:Heap,(K w.params).In base->base.Ns mainGlobals mg->base.BuiltinsAt mg T0->FnOk l.prog w (K w.params) mg base (CX w) k fa fd [x] (sp w T0))
 (hsp:∀(w:World) (H:Hp) (a:Addr) (ns:List Int),ns.length<=n->H T0=some (.tbl #[])->SqL (K w.params) H a (ns.map V.int)->sp w T0 [.ref a] H (fun v _=>v= .bl true) fun _ _ _=>False)
 (hCX:∀(w:World) (H:Hp) (s:Shared) (e:Value) (s':Shared),CX w [] H s (fun _ _ _=>False) e s'->False):
 PySem.W.WalkO q loose XP YP l.row.toRowW d [] (fun f vs=>PySem.call f vs):=by
 refine Att.attach_call hn hdf fun w s₀ s₁ mg mb fa o pm cd doc a vs ns G Y ho hd hcd hmg hobj hints hlen hg=> ?_;have KX:=hY w _ Y;obtain ⟨c0,kT0,cT0,fd,hb,hF⟩:=F w mg fa _ KX G.T.g hmg;have hT0:=hYT w _ Y;obtain ⟨bm,ob,b1,b2,b3,b4,b5,b6⟩:=G.T.bmain
 have hbP:bm≠T0:=fun q=>by
  rw [q,hT0] at b3;cases b3;cases b4
 have hbG:bm≠mainGlobals:=fun q=>by
  obtain ⟨o,es,ep,e,hd,_⟩:=G.T.g;rw [q,e] at b3;cases b3;rw [hd] at b6;cases b6
 exact oz KX G.T.g G.T.b G.T.builtins G.T.nolimit hg hobj hints (yC hlen hn2) hr hT0 kT0 cT0 ⟨bm,ob,b1,b2,hbG,hbP,b3,b4,b5,b6⟩ hF hb (fun H hO hS=>hsp w H a ns hlen hO hS) fun H e s'=>hCX w H s₁ e s'
open PySem PySem.Spec PyProof.Rows
theorem oM (a u v:Value):argsOk "min" ⟨[a],[(Str.ofString "key",u),(Str.ofString "default",v)]⟩:=by unfold argsOk;kernel_rfl
theorem df:(toString "min"++toString ".loop":String)= "min.loop":=by decide
section
variable {prog:Program} {w:World} {A:Around} {R:Result->Shared->Prop} {it S q:Addr} {fp wr:List Addr} {n:Nat} {P:Nat->Value->Prop} {St:Nat->Heap->Prop} {kw:List (Str×Value)} {s₀:Shared} {G:Heap->Prop} {kf:Nat->Int}
def Kp (wr:List Addr) (S:Addr) (h h':Heap):Prop:=∀b o,b∉wr->b≠S->h.get? b=some o->h'.get? b=some o
theorem Kp.trans {wr:List Addr} {S:Addr} {a b c:Heap} (x:Kp wr S a b) (y:Kp wr S b c):Kp wr S a c:=fun d o h1 h2 e=>y d o h1 h2 (x d o h1 h2 e)
theorem ot (W:Walks prog w A.in1 it fp wr n P St) (nS:S∉fp) (hG:∀h h',G h->Kp wr S h h'->G h')
 (turn:∀i v h tk,i < n->P i v->G h->wpAny (model prog w) A.in1 (call (.ref q) [v]) (fun x s''=>∃t h' tk',x=Value.int (kf i) t/\s''= {s₀ with heap:=h',toks:=tk'}/\∀b o,h.get? b=some o->h'.get? b=some o) (fun _ _=>False) {s₀ with heap:=h,toks:=tk}):
 ∀(k j i:Nat) (h:Heap) (tk:Nat) (vb:Value) (tb:Tok) (c:Nat),j+k=n->St j h->G h->
 h.get? S=some ({cls:= .type "list",data:= .seq #[vb,Value.int (kf i) tb] c}:Obj)->P i vb->i < n->(∀j',j' < j->kf i<=kf j')->
 (∀(i:Nat) (v:Value) (h':Heap) (tk:Nat),i < n->P i v->(∀j,j < n->kf i<=kf j)->Kp wr S h h'->R (.ok (.ret v)) {s₀ with heap:=h',toks:=tk})->
 codeAny (model prog w) A (.builtin "min.loop" ⟨[.ref it, .ref q, .ref S],kw⟩) R {s₀ with heap:=h,toks:=tk}:=by
 have nw:S∉wr:=fun z=>nS (W.sub _ z);intro k
 induction k with
 |zero=>
  intro j i h tk vb tb c e st hg gS pb hi hb hR;have e':j=n:=by omega
  subst e';refine codeAny_builtin PySem.F.entry_min_loop ?_;rw [Around.under_plainId PySem.F.plain_min_loop _];show wpAny _ A.in1 (seqItems? (.ref S) >>=fun _=>_) _ _ _;refine wpAny_bind (wpAny_seqItems gS rfl ?_);show wpAny _ A.in1 (tryCatch (pyNext (.ref it)) _ >>=fun _=>_) _ _ _;refine wpAny_bind (wpAny_tryCatch (W.done _ _ _ st fun h1 tk1 k1=> ?_));have gS1:=k1 S _ nw gS;show wpAny _ A.in1 (updateSeq S (fun _=> #[]) >>=fun _=>_) _ _ _;refine wpAny_bind (wpAny_updateSeq gS1 rfl (wpAny_bind (wpAny_letGo (wpAny_pure ?_))));exact hR i vb _ tk1 hi pb hb fun b o nb nbS eb=>(Heap.get?_update_other _ _ (Ne.symm nbS)).trans (k1 b o nb eb)
 |succ k ih=>
  intro j i h tk vb tb c e st hg gS pb hi hb hR;refine codeAny_builtin PySem.F.entry_min_loop ?_;rw [Around.under_plainId PySem.F.plain_min_loop _];show wpAny _ A.in1 (seqItems? (.ref S) >>=fun _=>_) _ _ _;refine wpAny_bind (wpAny_seqItems gS rfl ?_);show wpAny _ A.in1 (tryCatch (pyNext (.ref it)) _ >>=fun _=>_) _ _ _;refine wpAny_bind (wpAny_tryCatch (W.item j _ _ _ (by omega) st fun v h1 tk1 pv st1 k1=> ?_))
  have gS1:=k1 S _ nw gS;have kp1:Kp wr S h h1:=fun b o nb _ eb=>k1 b o nb eb;show wpAny _ A.in1 (tryCatch (holding [v] (call (.ref q) [v])) _ >>=_) _ _ _;refine wpAny_bind (wpAny_tryCatch (wpAny_holding (wpAny_mono (turn j v h1 tk1 (by omega) pv (hG _ _ hg kp1)) (fun x s'' he=> ?_) fun _ _ hF=>hF.elim)))
  refine hZq fun q_ e_=> ?_;obtain ⟨t2,h2,tk2,rfl,rfl,k2⟩:=he;subst e_;have kp2:Kp wr S h h2:=fun b o nb nS eb=>k2 b o (kp1 b o nb nS eb);have st2:St (j+1) h2:=W.frame _ _ _ st1 fun b hb o eo=>k2 b o eo;have gS2:=k2 _ _ gS1;show wpAny _ A.in1 (tryCatch (holding [v, .int (kf j) t2] (richCompare .Lt (.int (kf j) t2) (.int (kf i) tb) >>=_)) _ >>=_) _ _ _;refine wpAny_bind (wpAny_tryCatch (wpAny_holding (wpAny_bind (CmpOf.ints_lt (prog:=prog) (w:=w) (A:=A.in1) (P:=fun i v=>∃t,v= .int (kf i) t) kf (fun i v h=>h) j i _ _ _ _ _ ⟨t2,rfl⟩ ⟨tb,rfl⟩ ?_))));refine wpAny_bind (wpAny_holding (wpAny_truthy_bool ?_));refine wpAny_bind (wpAny_letGo (wpAny_pure ?_));by_cases hb':kf j < kf i
  . simp only [hb',decide_true,if_true];refine wpAny_bind (wpAny_updateSeq gS2 rfl (wpAny_bind (wpAny_letGo ?_)));rw [df];have kp3:Kp wr S h (h2.update S (Obj.mapSeq fun _=> #[v, .int (kf j) t2])):=fun b o nb nbS eb=>(Heap.get?_update_other _ _ (Ne.symm nbS)).trans (kp2 b o nb nbS eb);refine wpAny_pure ⟨plainId_quiet PySem.F.plain_min_loop _,ih (j+1) j _ _ v t2 _ (by omega) (W.frame _ _ _ st2 fun b hb o eo=>(Heap.get?_update_other _ _ (fun z:S=b=>nS (by rw [z];exact hb))).trans eo) (hG _ _ hg kp3) (Heap.get?_update_self _ gS2 rfl) pv (by omega) (fun j' hj=> ?_) fun i' v' h3 tk3 a1 a2 a3 a4=>hR i' v' h3 tk3 a1 a2 a3 (kp3.trans a4)⟩
    by_cases z:j'=j
    . rw [z];exact Int.le_refl _
    . have:=hb j' (by omega);omega
  . simp only [hb',decide_false,zm,if_false];refine wpAny_bind (wpAny_letGo ?_);rw [df];refine wpAny_pure ⟨plainId_quiet PySem.F.plain_min_loop _,ih (j+1) i _ _ vb tb c (by omega) st2 (hG _ _ hg kp2) gS2 pb hi (fun j' hj=> ?_) fun i' v' h3 tk3 a1 a2 a3 a4=>hR i' v' h3 tk3 a1 a2 a3 (kp2.trans a4)⟩
    by_cases z:j'=j
    . rw [z];omega
    . exact hb j' (by omega)
theorem lg (W:Walks prog w A.in1 it fp wr n P St) (nS:S∉fp) (hG:∀h h',G h->Kp wr S h h'->G h')
 (turn:∀i v h tk,i < n->P i v->G h->wpAny (model prog w) A.in1 (call (.ref q) [v]) (fun x s''=>∃t h' tk',x=Value.int (kf i) t/\s''= {s₀ with heap:=h',toks:=tk'}/\∀b o,h.get? b=some o->h'.get? b=some o) (fun _ _=>False) {s₀ with heap:=h,toks:=tk})
 (d:Value) {h:Heap} {tk:Nat} {c:Nat} (st:St 0 h) (hg:G h)
 (gS:h.get? S=some ({cls:= .type "list",data:= .seq #[] c}:Obj))
 (h0:n=0->∀(h':Heap) (tk:Nat),Kp wr S h h'->R (.ok (.ret d)) {s₀ with heap:=h',toks:=tk})
 (hR:∀(i:Nat) (v:Value) (h':Heap) (tk:Nat),i < n->P i v->(∀j,j < n->kf i<=kf j)->Kp wr S h h'->R (.ok (.ret v)) {s₀ with heap:=h',toks:=tk}):
 codeAny (model prog w) A (.builtin "min.loop" ⟨[.ref it, .ref q, .ref S],[(Str.ofString "default",d)]⟩) R {s₀ with heap:=h,toks:=tk}:=by
 have nw:S∉wr:=fun z=>nS (W.sub _ z);refine codeAny_builtin PySem.F.entry_min_loop ?_;rw [Around.under_plainId PySem.F.plain_min_loop _];show wpAny _ A.in1 (seqItems? (.ref S) >>=fun _=>_) _ _ _;refine wpAny_bind (wpAny_seqItems gS rfl ?_);show wpAny _ A.in1 (tryCatch (pyNext (.ref it)) _ >>=fun _=>_) _ _ _;by_cases z:n=0
 . refine wpAny_bind (wpAny_tryCatch (W.done _ _ _ (by rw [z];exact st) fun h1 tk1 k1=> ?_))
   refine wpAny_bind (wpAny_rule (wpAny_pure ?_));exact h0 z _ tk1 fun b o nb _ eb=>k1 b o nb eb
 . refine wpAny_bind (wpAny_tryCatch (W.item 0 _ _ _ (by omega) st fun v h1 tk1 pv st1 k1=> ?_))
   have gS1:=k1 S _ nw gS;have kp1:Kp wr S h h1:=fun b o nb _ eb=>k1 b o nb eb;show wpAny _ A.in1 (tryCatch (holding [v] (call (.ref q) [v])) _ >>=_) _ _ _;refine wpAny_bind (wpAny_tryCatch (wpAny_holding (wpAny_mono (turn 0 v h1 tk1 (by omega) pv (hG _ _ hg kp1)) (fun x s'' he=> ?_) fun _ _ hF=>hF.elim)))
   refine hZq fun q_ e_=> ?_;obtain ⟨t2,h2,tk2,rfl,rfl,k2⟩:=he;subst e_;have kp2:Kp wr S h h2:=fun b o nb nS eb=>k2 b o (kp1 b o nb nS eb);have st2:St 1 h2:=W.frame _ _ _ st1 fun b hb o eo=>k2 b o eo;have gS2:=k2 _ _ gS1;show wpAny _ A.in1 (updateSeq S (fun _=> #[v, .int (kf 0) t2]) >>=_) _ _ _;refine wpAny_bind (wpAny_updateSeq gS2 rfl ?_);rw [df];have kp3:Kp wr S h (h2.update S (Obj.mapSeq fun _=> #[v, .int (kf 0) t2])):=fun b o nb nbS eb=>(Heap.get?_update_other _ _ (Ne.symm nbS)).trans (kp2 b o nb nbS eb);refine wpAny_pure ⟨plainId_quiet PySem.F.plain_min_loop _,ot W nS hG turn (n - 1) 1 0 _ _ v t2 _ (by omega) (W.frame _ _ _ st2 fun b hb o eo=>(Heap.get?_update_other _ _ (fun z:S=b=>nS (by rw [z];exact hb))).trans eo) (hG _ _ hg kp3) (Heap.get?_update_self _ gS2 rfl) pv (by omega) (fun j' hj=> ?_) fun i' v' h3 tk3 a1 a2 a3 a4=>hR i' v' h3 tk3 a1 a2 a3 (kp3.trans a4)⟩
   rw [show j'=0 by omega]
   exact Int.le_refl _
end
open PySem PySem.Spec PyProof.Rows
noncomputable def CdX (c:Addr) (q:Str):HO:= .ext fun h=>h.CodeRec (.ref c) q
theorem xf {P:Program} {w:World} {H:Hp} {h:Heap} {c:Addr} {q:Str} (x:h.CodeRec (.ref c) q):ObjOk P w H h c (CdX c q):=by
 refine ⟨x,?_,fun h1 h2 y k=> ?_⟩
 . obtain ⟨c',o,vs,t,e,ho,_⟩:=x;cases e;exact ⟨o,ho⟩
 . obtain ⟨c',o,vs,t,e,ho,z⟩:=y;cases e;exact ⟨c,o,vs,t,rfl,k o ho,z⟩
def Lam (T0:Addr) (pos:Pos) (q:Str) (H:Hp):Prop:=H T0=some (.tbl #[])\/∃c,H T0=some (.tbl #[rawInt pos.line,rawInt pos.col, .ref c])/\H c=some (CdX c q)
theorem Lam.tb {T0:Addr} {pos:Pos} {q:Str} {H:Hp} (h:Lam T0 pos q H):∃ps,H T0=some (.tbl ps):=by
 rcases h with h|⟨c,h,_⟩
 . exact ⟨_,h⟩
 . exact ⟨_,h⟩
def ButT (T0:Addr) (H H':Hp):Prop:=∀b o,b≠T0->H b=some o->H' b=some o
section
variable {X:Cx} {pins:List (Addr×Obj)} {σ:St} {H:Hp} {s:Shared} {T0 c0:Addr} {params:Arguments} {body:Expr} {scope:Scope} {pos:Pos} {clos:List (Str×Addr)} {Q:Value->Shared->Prop} {E:Value->Shared->Prop} {q:Str}
theorem Inv.pinF {f:Addr} {o:Obj} (I:Inv X pins σ H s) (hf:s.heap.get? f=some o) (hn:H f=none) (hL:f≠X.env.locals) (hs:f∉X.fs) (hd:∀v,o.data≠ .cell v):Inv X ((f,o)::pins) σ H s:=by
 refine {I with pin:=fun p hp=> ?_};rcases yN.mp hp with hp|hp
 . exact I.pin p (zq _ hp)
 . rcases yx.mp hp with rfl|hp
   . exact ⟨hf,hn,hL,hs,hd⟩
   . exact I.pin p (yB _ hp)
theorem Inv.unpin {p:Addr×Obj} (I:Inv X (p::pins) σ H s):Inv X pins σ H s:=by
 refine {I with pin:=fun p hp=> ?_};rcases yN.mp hp with hp|hp
 . exact I.pin p (zq _ hp)
 . exact I.pin p (yB _ (ym _ hp))
theorem rR (I:Inv X pins σ H s) (hcode:X.env.code= .ref c0) (C:PySem.W.codeHdIn X.K c0 T0=true) (hB:X.base.BuiltinsAt X.mg T0) (hdef:defaultsOf params X.env=([],[])) (hcl:closureFor scope X.env=pure clos)
 (hL:Lam T0 pos (X.env.qual++"<lambda>") H)
 (h:∀f c' ctv H' s',Inv X ((f,PySem.W.kla_obj "<lambda>" (X.env.qual++"<lambda>") params body scope clos ((X.mg "__name__").getD .none) c' ctv)::pins) σ H' s'->ButT T0 H H'->Lam T0 pos (X.env.qual++"<lambda>") H'->s'.heap.CodeRec (.ref c') (X.env.qual++"<lambda>")->Q (.ref f) s'):
 wpAny (model X.prog X.w) X.A (eval (.Lambda params body scope pos) X.env) Q E s:=by
 refine PySem.W.kla_eval hdef ?_;have hg:s.heap.Ns mainGlobals X.mg:=I.mod.glob.keeps I.bk;have Ch:PySem.W.CodeHd s.heap c0 T0:=PySem.W.codeHd_of_K I.kIn C
 have hb:s.heap.BuiltinsAt X.mg T0:=by
  refine hZq fun q_ e_=> ?_;obtain ⟨bm,ob,b1,b2,b3,b4,b5,b6⟩:=hB;subst e_;exact ⟨bm,ob,b1,b2,b3,b4,I.bk _ _ b5,b6⟩
 refine hZq fun q_ e_=> ?_;obtain ⟨m,⟨oL,_,_,hoL,_⟩,_⟩:=id I.loc;subst e_;have lL:=Heap.lt_size hoL
 have fsl:∀b∈X.fs,b < s.heap.objs.size:=fun b hb'=>by
  obtain ⟨o,ho,_⟩:=(I.ok.funs.mem hb').2;obtain ⟨o',ho'⟩:=I.base.there b o ho (fun z=>I.ok.exfs b z hb');exact Heap.lt_size ho'
 rcases hL with hL|⟨c,hL,hc⟩
 . have hP:s.heap.get? T0=some (PySem.W.tabObj #[]):=I.hok T0 _ hL
   have hgP:mainGlobals≠T0:=fun e=>by
    refine hZq fun q_ e_=> ?_;obtain ⟨o,es,ep,e1,hd,_⟩:=hg;subst e_;rw [e,hP] at e1;cases e1;cases hd
   refine PySem.W.kla_makeFunction (mg:=X.mg) hcl I.ok.glob hg hcode Ch hP trivial rfl hgP hb fun c' ctv h' tk hx hge hlt hrec htb=> ?_;have hcn:H c'=none:=I.hok.fresh hge;have cT:c'≠T0:=fun e=>by rw [e,hL] at hcn;cases hcn
   have k':∀b o,b≠T0->s.heap.get? b=some o->(h'.push (PySem.W.kla_obj "<lambda>" (X.env.qual++"<lambda>") params body scope clos ((X.mg "__name__").getD .none) c' ctv)).get? b=some o:=fun b o n e=>Heap.get?_push_of_some _ (hx b o n e);have htb':=Heap.get?_push_of_some (PySem.W.kla_obj "<lambda>" (X.env.qual++"<lambda>") params body scope clos ((X.mg "__name__").getD .none) c' ctv) htb
   have hrec':(h'.push (PySem.W.kla_obj "<lambda>" (X.env.qual++"<lambda>") params body scope clos ((X.mg "__name__").getD .none) c' ctv)).CodeRec (.ref c') (X.env.qual++"<lambda>"):=by
    refine hZq fun q_ e_=> ?_;obtain ⟨c2,o,vs,t,e,ho,z⟩:=hrec;subst e_;exact ⟨c2,o,vs,t,e,Heap.get?_push_of_some _ ho,z⟩
   have hf:=Heap.get?_push_size h' (o:=PySem.W.kla_obj "<lambda>" (X.env.qual++"<lambda>") params body scope clos ((X.mg "__name__").getD .none) c' ctv) rfl;generalize hh2:h'.push (PySem.W.kla_obj "<lambda>" (X.env.qual++"<lambda>") params body scope clos ((X.mg "__name__").getD .none) c' ctv)=h2 at*
   have tb:∀b o,H b=some o->(∀ps,o≠ .tbl ps)->b≠T0:=fun b o e n z=>by
    rw [z,hL] at e;exact n _ (yF e).symm
   have hH:∀b,b≠T0->b≠c'->(upd (upd H T0 (.tbl #[rawInt pos.line,rawInt pos.col, .ref c'])) c' (CdX c' (X.env.qual++"<lambda>"))) b=H b:=fun b n1 n2=>by rw [ae n2,ae n1]
   have nc:∀b o,s.heap.get? b=some o->b≠c':=fun b o e z=>by
    have:=Heap.lt_size e;rw [z] at this;exact absurd this (Nat.not_lt.mpr hge)
   have ncH:∀b o,H b=some o->b≠c':=fun b o e z=>by rw [z,hcn] at e;cases e
   have hT2:(upd (upd H T0 (.tbl #[rawInt pos.line,rawInt pos.col, .ref c'])) c' (CdX c' (X.env.qual++"<lambda>"))) T0=some (.tbl #[rawInt pos.line,rawInt pos.col, .ref c']):=by rw [ae (Ne.symm cT),a8]
   have hok2:HOk X.prog X.w (upd (upd H T0 (.tbl #[rawInt pos.line,rawInt pos.col, .ref c'])) c' (CdX c' (X.env.qual++"<lambda>"))) h2:=fun b u e=>by
    by_cases b1:b=c'
    . subst b1;rw [a8] at e;cases e;exact xf hrec'
    . by_cases b2:b=T0
      . subst b2;rw [hT2] at e;cases e;show h2.get? _=some _;rw [htb'];rfl
      . rw [hH b b2 b1] at e;refine (I.hok b u e).stay (fun c v z q=>k' c v ?_ q) (fun c q=> ?_) fun c xs q=> ?_
        . rcases z with rfl|z
          . exact b2
          . exact tb _ _ z (by intro ps y;cases y)
        . rw [hH c (tb _ _ q (by intro ps y;cases y)) (ncH _ _ q)]
          exact q
        . rw [hH c (tb _ _ q (by intro ps y;cases y)) (ncH _ _ q)]
          exact q
   have idT:∀b,Idl (H b)->b≠T0:=fun b i z=>by
    rw [z,hL] at i;rcases i with i|⟨xs,i⟩<;>cases i
   have I2:=I.step (h':=h2) (H':=upd (upd H T0 (.tbl #[rawInt pos.line,rawInt pos.col, .ref c'])) c' (CdX c' (X.env.qual++"<lambda>"))) (g':=s.gens) (d':=s.drawn) (t':=tk) (ch:= []) (fun _ z=>nomatch z) (fun b o _ _ _ e n=>k' b o (idT b n) e)
    (fun b o _ _ _ e n=>⟨o.slots,k' b o (idT b (.inl n)) e⟩) (fun b o _ e n=>by rw [hH b (idT b (.inl n)) (nc b o e)];exact n)
    (fun b o _ e=>by
     by_cases z:b=T0
     . exact ⟨_,z▸htb'⟩
     . exact ⟨o,k' b o z e⟩)
    (fun b xs e=>by rw [hH b (tb _ _ e (by intro ps y;cases y)) (ncH _ _ e)];exact e) (fun b o u e=>by rw [hH b (tb _ _ e (by intro ps y;cases y)) (ncH _ _ e)];exact e)
    (fun b ps e=>by
     by_cases z:b=T0
     . subst z;rw [hL] at e;cases e;exact ⟨#[rawInt pos.line,rawInt pos.col, .ref c'],by rw [hT2];rfl⟩
     . exact ⟨#[],by rw [hH b z (ncH _ _ e),e];simp⟩)
    (fun m' ⟨o,es,ep,e,r⟩=>⟨o,es,ep,k' _ o (fun z=>by have:=I.free;rw [z,hL] at this;cases this) e,r⟩) hok2 I.bare
   have szf:s.heap.objs.size<=h'.objs.size:=by omega
   refine h h'.objs.size c' ctv _ _ (I2.pinF hf ?_ ?_ ?_ (by intro v z;cases z)) (fun b o n e=>by rw [hH b n (ncH _ _ e)];exact e) (.inr ⟨c',hT2,a8⟩) hrec'
   . rw [hH _ (fun z=>by have:=Heap.lt_size hP;rw [<-z] at this;exact absurd this (Nat.not_lt.mpr szf)) (fun z=>by rw [<-z] at hlt;exact absurd hlt (zL _))]
     exact I.hok.fresh szf
   . exact fun z=>by rw [<-z] at lL;exact absurd lL (Nat.not_lt.mpr szf)
   . exact fun z=>absurd (fsl _ z) (Nat.not_lt.mpr szf)
 . have hP:s.heap.get? T0=some (PySem.W.tabObj #[rawInt pos.line,rawInt pos.col, .ref c]):=I.hok T0 _ hL;have hrec:s.heap.CodeRec (.ref c) (X.env.qual++"<lambda>"):=(I.hok c _ hc).1;refine PySem.W.kla_makeFunctionHit (mg:=X.mg) (cv:= .ref c) hcl I.ok.glob hg hcode Ch hP trivial (by simp [codeAmong,rawInt]) hb fun ctv h' tk hk hsz=> ?_
   have k':∀b o,s.heap.get? b=some o->(h'.push (PySem.W.kla_obj "<lambda>" (X.env.qual++"<lambda>") params body scope clos ((X.mg "__name__").getD .none) c ctv)).get? b=some o:=fun b o e=>Heap.get?_push_of_some _ (hk b o e);have hf:=Heap.get?_push_size h' (o:=PySem.W.kla_obj "<lambda>" (X.env.qual++"<lambda>") params body scope clos ((X.mg "__name__").getD .none) c ctv) rfl;refine h h'.objs.size c ctv H _ ((I.kept (t':=tk) k').pinF hf (I.hok.fresh hsz) ?_ ?_ (by intro v z;cases z)) (fun b o _ e=>e) (.inr ⟨c,hL,hc⟩) ?_
   . exact fun z=>by rw [<-z] at lL;exact absurd lL (Nat.not_lt.mpr hsz)
   . exact fun z=>absurd (fsl _ z) (Nat.not_lt.mpr hsz)
   . refine hZq fun q_ e_=> ?_;obtain ⟨c2,o,vs,t,e,ho,z⟩:=hrec;subst e_;exact ⟨c2,o,vs,t,e,k' _ _ ho,z⟩
end
open PySem PySem.Spec PyProof.Rows
noncomputable abbrev lmSc:Scope:= {kind:= .function,names:= [(Str.ofString "place", .local),(Str.ofString "numbers", .free)],isGenerator:=false,isCoroutine:=false,more:= []}
noncomputable abbrev lmAr (p:Pos):Arguments:= {posonlyargs:= [],args:= [{arg:="place",annotation:=none,pos:=p}],vararg:=none,kwonlyargs:= [],kw_defaults:= [],kwarg:=none,defaults:= []}
noncomputable abbrev lmBd (p1 p2 p3:Pos):Expr:= .Subscript (.Name "numbers" p1) (.Name "place" p2) p3
theorem uv {env:Env} {c:Addr} (h:env.cells.lookup (Str.ofString "numbers")=some c):closureFor lmSc env=pure [(Str.ofString "numbers",c)]:=by
 have e:cellOf env (Str.ofString "numbers")=pure c:=by unfold cellOf;rw [h]
 unfold closureFor;simp only [List.forIn_cons,List.forIn_nil,pure_bind,bind_pure_comp];simp [e]
theorem rS {prog:Program} {w:World} {A:Around} {s:Shared} {f a c c':Addr} {q:Str} {p0 p1 p2 p3:Pos} {pm ctv:Value} {its:Array Value} {i k:Int} {t u:Tok} (hroom:A.depth < recursionLimit)
 (ho:s.heap.get? f=some (PySem.W.kla_obj "<lambda>" q (lmAr p0) (lmBd p1 p2 p3) lmSc [(Str.ofString "numbers",c)] pm c' ctv)) (hrec:s.heap.CodeRec (.ref c') q) (hlim:s.heap.NoLimit)
 (hcell:s.heap.IsCell c (some (.ref a))) (hl:s.heap.IsList a its) (h0:0<=i) (hfit:i < 2^63) (hx:its[i.toNat]?=some (.int k u)):
 wpAny (model prog w) A (call (.ref f) [.int i t]) (fun x s''=>∃t h' tk',x=Value.int k t/\s''= {s with heap:=h',toks:=tk'}/\∀b o,s.heap.get? b=some o->h'.get? b=some o) (fun _ _=>False) s:=by
 refine wpAny_call (PySem.W.kla_callFunE hroom ho rfl rfl rfl rfl hrec ?_);rw [show bindArgs (PySem.W.kla_fn "<lambda>" q (lmAr p0) (lmBd p1 p2 p3) lmSc [(Str.ofString "numbers",c)] pm (.ref c') ctv) ⟨[.int i t],[]⟩=pure [(Str.ofString "place", .int i t)] from rfl]
 refine wpAny_pure (wpAny_newFunctionEnv (scope:=lmSc) (by decide +kernel) (by
  intro x m;rw [yD.mp m];show List.lookup (Str.ofString "place") lmSc.names=_
  decide +kernel) (fun h₁ hns hsb=>⟨hlim.fresh _ hsb,PySem.W.kla_codeExpr ?_⟩) rfl)
 have hk₁:∀b o,s.heap.get? b=some o->h₁.get? b=some o:=fun b o e=>hsb.extBut b o (yA (Heap.lt_size e)) (Heap.get?_push_of_some _ e);refine Subscript_ (wpAny_Name (wpAny_loadName_free rfl (show List.lookup (Str.ofString "numbers") lmSc.names=some .free by decide +kernel) (c:=c) (v:= .ref a) ?_ (hcell.keeps hk₁) ?_ (by decide +kernel)) (by decide +kernel))
 . show List.lookup (Str.ofString "numbers") [(Str.ofString "numbers",c)]=some c;simp
 refine wpAny_Name (wpAny_loadName_local rfl (show List.lookup (Str.ofString "place") lmSc.names=some .local by decide +kernel) hns (v:= .int i t) ?_ ?_) (by decide +kernel)
 . show List.lookup (Str.ofString "place") [(Str.ofString "place",Value.int i t)]=_;simp
 obtain ⟨ol,hol,hr⟩:=hl;refine item_listR (s:= {s with heap:=h₁,toks:=_}) (items:=its) ⟨ol,hk₁ _ _ hol,hr⟩ h0 hfit hx ?_;exact ⟨u,h₁,_,rfl,rfl,hk₁⟩
theorem SqL.butT {K:PySem.W.Frag} {H H':Hp} {T0 a:Addr} {xs:List V} {ps:Array Value} (hT:H T0=some (.tbl ps)) (b:ButT T0 H H') (h:SqL K H a xs):SqL K H' a xs:=by
 rcases h with (h|⟨o,h⟩)|h
 . exact .inl (.inl (b _ _ (fun z=>by rw [z,hT] at h;cases h) h))
 . exact .inl (.inr ⟨o,b _ _ (fun z=>by rw [z,hT] at h;cases h) h⟩)
 . exact .inr h
noncomputable def nv (ps:List Nat):List V:=ps.map fun (p:Nat)=>V.int (p:Int)
def vE (K:PySem.W.Frag) (T0:Addr) (pos:Pos) (q:Str):TE:=fun σ H Q=>∃(a b:Addr) (ns:List Int) (ps:List Nat),σ[0]?=some (some (.ref a))/\σ[1]?=some (some (.ref b))/\SqL K H a (ns.map V.int)/\SqL K H b (nv ps)/\(∀p∈ps,p < ns.length)/\Lam T0 pos q H/\
 (ps= []->∀H',ButT T0 H H'->Lam T0 pos q H'->Q .non H')/\∀p∈ps,(∀r∈ps,ns.getD p 0<=ns.getD r 0)->∀H',ButT T0 H H'->Lam T0 pos q H'->Q (.int (p:Int)) H'
theorem r4 {X:Cx} {T0 c0:Addr} {p p' p0 p1 p2 p3 p4 pos kp kp2 cpos:Pos} {k:Nat} (hc:X.calm=true) (hr:Room k X.A) (hN:X.N= [Str.ofString "numbers",Str.ofString "places"]) (hn:X.env.scope.names.lookup (Str.ofString "numbers")=some .cell) (hpl:Vis X.env.scope (Str.ofString "places"))
 (hcode:X.env.code= .ref c0) (C:PySem.W.codeHdIn X.K c0 T0=true) (hB:X.base.BuiltinsAt X.mg T0) (hg:Gl X (Str.ofString "min")) (hm:X.mg (Str.ofString "min")=none):
 PE X (.Call (.Name "min" p) [.Name "places" p'] [⟨some (Str.ofString "key"), .Lambda (lmAr p0) (lmBd p1 p2 p3) lmSc pos,kp⟩,⟨some (Str.ofString "default"), .Constant .none 0 p4,kp2⟩] cpos) (vE X.K T0 pos (X.env.qual++"<lambda>")):=by
 intro pins s σ H Q I h;refine hZq fun q_ e_=> ?_;obtain ⟨a,b,ns,ps,e0,e1,ha,hb,hps,hL,hnil,hbest⟩:=h;subst e_;refine wpAny_Call_Name_kw (fk I hg hm boot_min ?_ (by decide) (by decide))
 refine PyProof.Rows.callWith_kw (thn ((a0 (qZ (i:=1) (by rw [hN];rfl) hpl) a9) cpos pins s σ H (fun vs H1=>vs= [.ref b]/\H1=H) I ⟨_,e1,rfl,rfl⟩) fun us s1 ⟨vs,H1,I1,r1,q1⟩=> ?_)
 obtain ⟨rfl,rfl⟩:=q1;obtain ⟨u,rfl,ru⟩:=cM r1;cases ru;obtain ⟨ps0,hT⟩:=hL.tb;show wpAny _ _ (evalAll ((do let v<-eval (.Lambda (lmAr p0) (lmBd p1 p2 p3) lmSc pos) X.env;standAt cpos;pure v)::(do let v<-eval (.Constant .none 0 p4) X.env;standAt cpos;pure v):: [])) _ _ s1
 have lk:=I1.loc;refine hZq fun q_ e_=> ?_;obtain ⟨m,hns,hlk⟩:=lk;obtain ⟨u,ru,l⟩:=hlk 0 (Str.ofString "numbers") (.ref a) (by rw [hN];rfl) e0 (.inr (.inl hn))
 subst e_;cases ru
 obtain ⟨c,hcl,hcell⟩:∃c,X.env.cells.lookup (Str.ofString "numbers")=some c/\s1.heap.IsCell c (some (.ref a)):=by
  rcases l with ⟨l,_⟩|⟨_,l⟩
  . have:X.env.scope.names.lookup (Str.ofString "numbers")=some .local:=l;rw [hn] at this;cases this
  . exact l
 refine wpAny_evalAll_cons (wpAny_bind (rR I1 hcode C hB rfl (uv hcl) hL fun f c' ctv H2 s2 I2 bt hL2 hrec=>wpAny_bind (wpAny_standAt (wpAny_pure ?_))));refine wpAny_evalAll_cons (wpAny_bind (Constant_none (wpAny_bind (wpAny_standAt (wpAny_pure (wpAny_evalAll_nil ?_))))));show wpAny _ X.A (call (.builtin "min") [.ref b] [(Str.ofString "key", .ref f),(Str.ofString "default", .none)]) _ _ s2;have hb2:=SqL.butT hT bt hb;have ha2:=SqL.butT hT bt ha;refine hZq fun q_ e_=> ?_;obtain ⟨its,rv,pl,_⟩:=I2.list hb2;obtain ⟨ita,rva,pla,hza⟩:=I2.list ha2;subst e_;have hlen:=rv.length;unfold nv at hlen;rw [yi] at hlen;have hlt:b < s2.heap.objs.size:=by obtain ⟨_,e,_⟩:=pl.isList;exact Heap.lt_size e
 have hfo:=(I2.pin _ (yB _ yn)).1
 have hcell2:s2.heap.IsCell c (some (.ref a)):=by
  refine hZq fun q_ e_=> ?_;obtain ⟨m2,_,hlk2⟩:=I2.loc;obtain ⟨u,ru,l⟩:=hlk2 0 (Str.ofString "numbers") (.ref a) (by rw [hN];rfl) e0 (.inr (.inl hn))
  subst e_;cases ru;rcases l with ⟨l,_⟩|⟨_,c2,l1,l2⟩
  . have:X.env.scope.names.lookup (Str.ofString "numbers")=some .local:=l;rw [hn] at this;cases this
  . rw [hcl] at l1;cases l1;exact l2
 refine PyProof.Rows.kmk_tree PySem.F.kind_min PySem.F.plain_min PySem.F.entry_min (oM _ _ _) ?_;show wpAny _ X.A.in1 (Builtin.Builtins.bindParams "min" ["key","default"] 0 ⟨[],[(Str.ofString "key", .ref f),(Str.ofString "default", .none)]⟩ >>=fun _=>_) _ _ s2;refine wpAny_bind (wpAny_of_eq (show Builtin.Builtins.bindParams "min" ["key","default"] 0 ⟨[],[(Str.ofString "key", .ref f),(Str.ofString "default", .none)]⟩=pure [some (.ref f),some .none] from rfl) ?_);refine wpAny_bind (wpAny_pure (wpAny_bind (wpAny_pyIter_list pl.isList (wpAny_bind (wpAny_newObj_type ?_ (yJ _))))));rw [df];have sz1:∀o:Obj,(s2.heap.push o).objs.size=s2.heap.objs.size+1:=fun o=>Heap.size_push ..
 have kp0:∀ {h':Heap},Kp [s2.heap.objs.size] (s2.heap.push {cls:= .type "list_iterator",data:= .fields #[.ref b, .int 0 0]}).objs.size ((s2.heap.push {cls:= .type "list_iterator",data:= .fields #[.ref b, .int 0 0]}).push {cls:= .type "list",data:= .seq ([]:List Value).toArray}) h'->∀b o,s2.heap.get? b=some o->h'.get? b=some o:=fun hk b x ex=>hk b x (fun hm=>by
  rw [yD.mp hm] at ex;exact zL _ (Heap.lt_size ex)) (fun e=>by
  have l:=Heap.lt_size ex;rw [e] at l
  exact absurd l (by rw [sz1];exact Nat.not_lt.mpr (Nat.le_succ _))) (Heap.get?_push_of_some _ (Heap.get?_push_of_some _ ex))
 have fin:∀ {x:V} {v:Value} {h':Heap} {tk:Nat},(∀b o,s2.heap.get? b=some o->h'.get? b=some o)->RelV x v->Q x H2->EP X pins σ Q v {s2 with heap:=h',toks:=tk}:=fun hk r q=>⟨_,H2,(I2.unpin).kept hk,r,q⟩
 have it_of:∀i v,its.toArray[i]?=some v->∃(hi:i < ps.length) (t:Tok),v= .int (ps[i]:Int) t:=fun i v e=>by
  have e':its[i]?=some v:=by simpa using e
  have hi:i < ps.length:=by have:=(yt.mp e').1;omega
  obtain ⟨y,ey,ry⟩:=rv.get (i:=i) (x:= .int (ps[i]:Int)) (by unfold nv;rw [yo,yj hi];rfl)
  rw [e'] at ey;cases ey;exact ⟨hi,ry⟩
 refine wpAny_pure ⟨plainId_quiet PySem.F.plain_min_loop _,lg (s₀:=s2) (G:=fun h=>∀b o,s2.heap.get? b=some o->h.get? b=some o) (kf:=fun i=>ns.getD (ps.getD i 0) 0) (Walks.list (A:=X.A.in1) (I2.ok.hd hc) s2.heap.objs.size b (yA hlt) its.toArray) (fun hm=> ?_) (fun h h' g k b o e=> ?_) (fun i v h tk hi pv g=> ?_) .none
  ⟨⟨_,Heap.get?_push_of_some _ (Heap.get?_push_size _ rfl),rfl,rfl⟩,(pl.isList.push _).push _⟩ (fun b o e=>Heap.get?_push_of_some _ (Heap.get?_push_of_some _ e)) (Heap.get?_push_size _ rfl) (fun hz h' tk hk=> ?_) fun i v h' tk hi pv hall hk=> ?_⟩
 . rcases yx.mp hm with e|hm
   . exact absurd ((sz1 _).symm.trans e) (Nat.succ_ne_self _)
   . exact absurd ((sz1 _).symm.trans (yD.mp hm)) (Nat.ne_of_gt (zc hlt))
 . refine k b o (fun hm=> ?_) (fun e'=> ?_) (g b o e)
   . rw [yD.mp hm] at e;exact zL _ (Heap.lt_size e)
   . have l:=Heap.lt_size e;rw [e'] at l;exact absurd l (by rw [sz1];exact Nat.not_lt.mpr (Nat.le_succ _))
 . refine hZq fun q_ e_=> ?_;obtain ⟨hi',t,rfl⟩:=it_of i v pv;have hp:=hps _ (z5 hi');have ei:ps.getD i 0=ps[i]:=by simp [hi']
   obtain ⟨y,ey,ry⟩:=rva.get (i:=ps[i]) (x:= .int ns[ps[i]]) (by rw [yo,yj hp];rfl)
   obtain ⟨ty,rfl⟩:=ry;obtain ⟨oa,hoa,hra⟩:=pla.isList;subst e_;have hz:=e6;rw [yi] at hza;refine rS (s:= {s2 with heap:=h,toks:=tk}) (a:=a) (its:=ita.toArray) (show X.A.in1.depth < _ from hr.depth) (g _ _ hfo) ?_ ?_ (hcell2.keeps g) ⟨oa,g _ _ hoa,hra⟩ (by omega) ?_ (u:=ty) ?_
   . refine hZq fun q_ e_=> ?_;obtain ⟨c2,o,vs,t,e,ho,z⟩:=hrec;subst e_;exact ⟨c2,o,vs,t,e,g _ _ ho,z⟩
   . exact I2.nolimit.keeps g
   . have:((ps[i]:Nat):Int) < (sizeLine:Int):=by omega
     omega
   . show (ita.toArray)[((ps[i]:Nat):Int).toNat]?=some (.int (ns.getD (ps.getD i 0) 0) ty);rw [ei,zp,show ns.getD ps[i] 0=ns[ps[i]] by simp [hp]]
     simpa using ey
 . rw [yu] at hz;exact fin (x:= .non) (kp0 hk) rfl (hnil (List.eq_nil_of_length_eq_zero (by omega)) H2 bt hL2)
 . obtain ⟨hi',t,rfl⟩:=it_of i v pv;have ei:ps.getD i 0=ps[i]:=by simp [hi']
   refine fin (x:= .int (ps[i]:Int)) (kp0 hk) ⟨_,rfl⟩ (hbest _ (z5 hi') (fun r mr=> ?_) H2 bt hL2);obtain ⟨j,hj,rfl⟩:=zf mr;have:=hall j (by rw [yu];omega)
   rw [ei,show ps.getD j 0=ps[j] by simp [hj]] at this
   exact this
end L2
namespace Wg
noncomputable def sumN:Nat->(Nat->Int)->Int
 |0,_=>0
 |n+1,f=>sumN n f+f n
theorem sumN_congr {n:Nat} {f g:Nat->Int} (h:∀i,i < n->f i=g i):sumN n f=sumN n g:=by
 induction n with
 |zero=>rfl
 |succ n ih=>
  rw [sumN,sumN,ih fun i hi=>h i (zc hi),h n (zF n)]
theorem sumN_add {n:Nat} {f g:Nat->Int}:sumN n (fun i=>f i+g i)=sumN n f+sumN n g:=by
 induction n with
 |zero=>rfl
 |succ n ih=>
  simp only [sumN,ih];omega
theorem sumN_mul {n:Nat} {x:Int} {f:Nat->Int}:sumN n (fun i=>x*f i)=x*sumN n f:=by
 induction n with
 |zero=>simp [sumN]
 |succ n ih=>simp only [sumN,ih,Int.mul_add]
theorem sumN_zero {n:Nat} {f:Nat->Int} (h:∀i,i < n->f i=0):sumN n f=0:=by
 induction n with
 |zero=>rfl
 |succ n ih=>
  rw [sumN,ih fun i hi=>h i (zc hi),h n (zF n)];rfl
theorem sumN_one {n k:Nat} {f:Nat->Int} (hk:k < n) (h:∀i,i < n->i≠k->f i=0):sumN n f=f k:=by
 induction n with
 |zero=>omega
 |succ n ih=>
  rw [sumN];by_cases e:k=n
  . subst e;rw [sumN_zero fun i hi=>h i (zc hi) (by omega)]
    omega
  . rw [ih (by omega) fun i hi=>h i (zc hi),h n (zF n) (fun z=>e z.symm)]
    omega
theorem pG {n k:Nat} {f:Nat->Int} (hk:k+1 < n) (h:∀i,i < n->i≠k->i≠k+1->f i=0):sumN n f=f k+f (k+1):=by
 induction n with
 |zero=>omega
 |succ n ih=>
  rw [sumN];by_cases e:k+1=n
  . subst e;rw [sumN_one (k:=k) (by omega) fun i hi hne=>h i (by omega) hne (by omega)]
  . rw [ih (by omega) fun i hi=>h i (zc hi),h n (zF n) (by omega) (by omega)]
    omega
noncomputable def sgn:Nat->Int
 |0=>1
 |n+1=> -sgn n
abbrev Vec:=Nat->Int
noncomputable def setV (B:Nat->Vec) (i:Nat) (v:Vec):Nat->Vec:=fun k=>if k=i then v else B k
theorem bE {B:Nat->Vec} {i:Nat} {v:Vec}:setV B i v i=v:=by unfold setV;rw [if_pos rfl]
theorem cn {B:Nat->Vec} {i k:Nat} {v:Vec} (h:k≠i):setV B i v k=B k:=by unfold setV;rw [if_neg h]
noncomputable def skip (j:Nat) (B:Nat->Vec):Nat->Vec:=fun k c=>B (if k < j then k else k+1) (c+1)
noncomputable def det:Nat->(Nat->Vec)->Int
 |0,_=>1
 |m+1,B=>sumN (m+1) fun j=>sgn j*B j 0*det m (skip j B)
theorem fo:∀(m:Nat) {B C:Nat->Vec},(∀k c,k < m->c < m->B k c=C k c)->det m B=det m C
 |0,_,_,_=>rfl
 |m+1,B,C,h=>by
  rw [det,det];refine sumN_congr fun j hj=> ?_;rw [h j 0 hj (by omega),fo m (B:=skip j B) (C:=skip j C) fun k c hk hc=> ?_]
  unfold skip;split
  . exact h k (c+1) (by omega) (by omega)
  . exact h (k+1) (c+1) (by omega) (by omega)
theorem cG {B:Nat->Vec} {i:Nat} {v:Vec}:skip i (setV B i v)=skip i B:=by
 funext k c;unfold skip;rw [cn (by split<;>omega)]
noncomputable def pos (j i:Nat):Nat:=if i < j then i else i - 1
noncomputable def sh (v:Vec):Vec:=fun c=>v (c+1)
theorem gz {B:Nat->Vec} {i j:Nat} {v:Vec} (h:j≠i):skip j (setV B i v)=setV (skip j B) (pos j i) (sh v):=by
 funext k c;unfold skip setV pos sh;by_cases hij:i < j
 . rw [if_pos hij];by_cases hk:k < j
   . rw [if_pos hk];by_cases e:k=i
     . rw [if_pos e,if_pos e]
     . rw [if_neg e,if_neg e];show _=B (if k < j then k else k+1) (c+1);rw [if_pos hk]
   . rw [if_neg hk,if_neg (by omega),if_neg (by omega)]
     show _=B (if k < j then k else k+1) (c+1);rw [if_neg hk]
 . rw [if_neg hij];by_cases hk:k < j
   . rw [if_pos hk,if_neg (by omega),if_neg (by omega)]
     show _=B (if k < j then k else k+1) (c+1);rw [if_pos hk]
   . rw [if_neg hk];by_cases e:k+1=i
     . rw [if_pos e,if_pos (by omega)]
     . rw [if_neg e,if_neg (by omega)]
       show _=B (if k < j then k else k+1) (c+1);rw [if_neg hk]
theorem ji:∀(m:Nat) (B:Nat->Vec) (i:Nat) (x y:Int) (u v:Vec),i < m->det m (setV B i fun c=>x*u c+y*v c)=x*det m (setV B i u)+y*det m (setV B i v)
 |0,_,i,_,_,_,_,h=>by omega
 |m+1,B,i,x,y,u,v,h=>by
  rw [det,det,det,<-sumN_mul,<-sumN_mul,<-sumN_add];refine sumN_congr fun j hj=> ?_;by_cases e:j=i
  . subst e;rw [bE,bE,bE,cG,cG,cG];simp only [Int.mul_add,Int.add_mul];congr 1<;>simp only [<-zt]<;>congr 1<;>rw [zy (sgn j)]
  . rw [cn e,cn e,cn e,gz e,gz e,gz e];have hp:pos j i < m:=by unfold pos;split<;>omega
    have:=ji m (skip j B) (pos j i) x y (sh u) (sh v) hp;have e2:(sh fun c=>x*u c+y*v c)=fun c=>x*sh u c+y*sh v c:=rfl;rw [e2,this,Int.mul_add];rw [Int.mul_left_comm _ x,Int.mul_left_comm _ y]
theorem g9:∀(m:Nat) (B:Nat->Vec) (a:Nat),a+1 < m->B a=B (a+1)->det m B=0
 |0,_,_,h,_=>by omega
 |m+1,B,a,h,e=>by
  rw [det,pG (k:=a) h]
  . have hs:skip a B=skip (a+1) B:=by
     funext k c;unfold skip;by_cases hk:k < a
     . rw [if_pos hk,if_pos (by omega)]
     . rw [if_neg hk];by_cases hk2:k < a+1
       . have:k=a:=by omega
         subst this;rw [if_pos hk2,e]
       . rw [if_neg hk2]
    rw [hs,e];show _+ -sgn a*_*_=_;rw [Int.neg_mul,Int.neg_mul];omega
  . intro j hj h1 h2
    have:det m (skip j B)=0:=by
     by_cases hl:a+1 < j
     . refine g9 m (skip j B) a (by omega) ?_
       funext c;unfold skip;rw [if_pos (by omega),if_pos hl,e]
     . have hg:j < a:=by omega
       obtain ⟨b,rfl⟩:∃b,a=b+1:=⟨a - 1,by omega⟩
       refine g9 m (skip j B) b (by omega) ?_
       funext c;unfold skip;rw [if_neg (by omega),if_neg (by omega),e]
    rw [this,zw]
theorem set_comm {B:Nat->Vec} {i j:Nat} {u v:Vec} (h:i≠j):setV (setV B i u) j v=setV (setV B j v) i u:=by
 funext k;unfold setV;by_cases e:k=j
 . rw [if_pos e,if_neg (by omega),if_pos e]
 . rw [if_neg e];by_cases e2:k=i
   . rw [if_pos e2,if_pos e2]
   . rw [if_neg e2,if_neg e2,if_neg e]
theorem gA {B:Nat->Vec} {i:Nat}:setV B i (B i)=B:=by
 funext k;unfold setV;by_cases e:k=i
 . rw [if_pos e,e]
 . rw [if_neg e]
theorem jj {m:Nat} (B:Nat->Vec) (i:Nat) (u v:Vec) (h:i < m):det m (setV B i fun c=>u c+v c)=det m (setV B i u)+det m (setV B i v):=by
 have:=ji m B i 1 1 u v h;rw [Int.one_mul,Int.one_mul] at this;rw [<-this];congr 2;funext c;rw [Int.one_mul,Int.one_mul]
theorem jh {m:Nat} (B:Nat->Vec) (i:Nat) (x:Int) (u:Vec) (h:i < m):det m (setV B i fun c=>x*u c)=x*det m (setV B i u):=by
 have:=ji m B i x 0 u u h;rw [zk,Int.add_zero] at this;rw [<-this];congr 2;funext c;rw [zk,Int.add_zero]
theorem sK {m:Nat} (B:Nat->Vec) (a:Nat) (u v:Vec) (h:a+1 < m):det m (setV (setV B a u) (a+1) v)= -det m (setV (setV B a v) (a+1) u):=by
 have z:∀w:Vec,det m (setV (setV B a w) (a+1) w)=0:=fun w=>g9 m _ a h (by rw [bE,cn (by omega),bE])
 have t:=z fun c=>u c+v c
 have q:∀w:Vec,det m (setV (setV B a fun c=>u c+v c) (a+1) w)=det m (setV (setV B a u) (a+1) w)+det m (setV (setV B a v) (a+1) w):=by
  intro w;rw [set_comm (by omega),jj _ _ _ _ (by omega),set_comm (by omega),set_comm (i:=a+1) (j:=a) (u:=w) (v:=v) (by omega)]
 rw [jj _ _ _ _ h,q,q] at t;rw [z u,z v] at t;omega
theorem lH:∀(d m:Nat) (B:Nat->Vec) (i:Nat),i+d+1 < m->B i=B (i+d+1)->det m B=0
 |0,m,B,i,h,e=>g9 m B i h e
 |d+1,m,B,i,h,e=>by
  have hb:B=setV (setV B (i+d+1) (B (i+d+1))) (i+d+1+1) (B (i+d+1+1)):=by rw [gA,gA]
  rw [hb,sK B (i+d+1) _ _ h];rw [lH d m (setV (setV B (i+d+1) (B (i+d+1+1))) (i+d+1+1) (B (i+d+1))) i (by omega)]
  . rfl
  . rw [cn (by omega),cn (by omega),cn (by omega),bE]
    exact e
theorem uI {m:Nat} {B:Nat->Vec} {i j:Nat} (hi:i < m) (hj:j < m) (hne:i≠j) (e:B i=B j):det m B=0:=by
 by_cases h:i < j
 . obtain ⟨d,rfl⟩:∃d,j=i+d+1:=⟨j - i - 1,by omega⟩
   exact lH d m B i hj e
 . obtain ⟨d,rfl⟩:∃d,i=j+d+1:=⟨i - j - 1,by omega⟩
   exact lH d m B j hi e.symm
theorem nG {m:Nat} (B:Nat->Vec) (i:Nat) (h:i < m) (e:Nat->Int) (W:Nat->Vec):∀n:Nat,det m (setV B i fun c=>sumN n fun k=>e k*W k c)=sumN n fun k=>e k*det m (setV B i (W k))
 |0=>by
  have:=jh B i 0 (fun _=>0) h;rw [zk (det m _)] at this;show det m (setV B i fun _=>0)=0;exact this
 |n+1=>by
  rw [sumN,<-nG B i h e W n,<-jh B i (e n) (W n) h,<-jj _ _ _ _ h];rfl
theorem jk {m:Nat} (B:Nat->Vec) (D:Int) (V:Vec) (e:Nat->Int) (hV:∀c,c < m->D*V c=sumN m fun k=>e k*B k c) (i:Nat) (h:i < m):D*det m (setV B i V)=e i*det m B:=by
 rw [<-jh B i D V h];rw [fo m (C:=setV B i fun c=>sumN m fun k=>e k*B k c)]
 . rw [nG B i h e B m,sumN_one (k:=i) h]
   . rw [gA]
   . intro k hk hne;rw [uI (i:=k) (j:=i) hk h hne,zw];rw [bE,cn hne]
 . intro k c hk hc;by_cases e':k=i
   . subst e';rw [bE,bE];exact hV c hc
   . rw [cn e',cn e']
theorem eE {n r:Nat} {f:Nat->Int} {a:Int} (h:r < n):(sumN n fun i=>if i=r then a else f i)=sumN n f - f r+a:=by
 induction n with
 |zero=>omega
 |succ n ih=>
  rw [sumN,sumN];by_cases e:r=n
  . subst e;rw [if_pos rfl,sumN_congr (g:=f) fun i hi=>if_neg (by omega)]
    omega
  . rw [ih (by omega),if_neg (by omega)]
    omega
structure Tb where
 bot:Int
 ln:Nat->Nat->Int
 sd:Nat->Nat
 hd:Nat->Nat
noncomputable def Tb.W (T:Tb) (V:Nat->Vec) (R:Nat->Vec) (n c:Nat):Vec:=fun t=>if c < n then -V (T.hd c) t else R c t
structure Inv (m n:Nat) (V R:Nat->Vec) (T:Tb):Prop where
 pos:0 < T.bot
 det:(det m fun i=>V (T.sd i)).natAbs=T.bot.natAbs
 ln:∀c t,c < n+2->t < m->(sumN m fun i=>T.ln i c*V (T.sd i) t)=T.bot*T.W V R n c t
noncomputable def sg (p:Int):Int:=if p > 0 then 1 else -1
theorem qt (p:Int):sg p*p=(p.natAbs:Int):=by
 unfold sg;by_cases h:p > 0
 . rw [if_pos h];omega
 . rw [if_neg h];omega
theorem xy (p:Int):sg p*sg p=1:=by
 unfold sg;by_cases h:p > 0
 . rw [if_pos h];rfl
 . rw [if_neg h];rfl
noncomputable def Tb.num (T:Tb) (r q i c:Nat):Int:=T.ln i c*(T.ln r q).natAbs - sg (T.ln r q)*T.ln i q*T.ln r c
noncomputable def piv (T:Tb) (r q:Nat):Tb where
 bot:=(T.ln r q).natAbs
 ln:=fun i c=>if i=r then (if c=q then sg (T.ln r q)*T.bot else -sg (T.ln r q)*T.ln r c)
  else if c=q then sg (T.ln r q)*T.ln i q else T.num r q i c / T.bot
 sd:=fun i=>if i=r then T.hd q else T.sd i
 hd:=fun c=>if c=q then T.sd r else T.hd c
theorem xS (T:Tb) (r q c:Nat):T.num r q r c=0:=by
 unfold Tb.num;rw [qt,zy];omega
theorem xh {a b:Int} (h:a.natAbs=b.natAbs):∃s:Int,a=s*b/\b=s*a/\s*s=1:=by
 rcases Int.natAbs_eq_natAbs_iff.1 h with e|e
 . exact ⟨1,by omega,by omega,rfl⟩
 . exact ⟨-1,by omega,by omega,rfl⟩
theorem vT {V:Nat->Vec} {T:Tb} {r q:Nat}:(fun i=>V ((piv T r q).sd i))=setV (fun i=>V (T.sd i)) r (V (T.hd q)):=by
 funext i;unfold setV piv;by_cases e:i=r
 . rw [if_pos e];simp only [e,if_true]
 . rw [if_neg e];simp only [e,if_false]
theorem ml {m n:Nat} {V R:Nat->Vec} {T:Tb} (I:Inv m n V R T) {r q:Nat} (hr:r < m) (hq:q < n):(det m fun i=>V ((piv T r q).sd i)).natAbs=(T.ln r q).natAbs:=by
 rw [vT]
 have h:=jk (fun i=>V (T.sd i)) (-T.bot) (V (T.hd q)) (fun i=>T.ln i q) (fun t ht=>by
  rw [I.ln q t (by omega) ht]
  unfold Tb.W
  rw [if_pos hq,Int.mul_neg,Int.neg_mul]) r hr
 have h2:=congrArg Int.natAbs h;rw [yT,yT,I.det,zO,Nat.mul_comm] at h2;have:=I.pos;exact Nat.eq_of_mul_eq_mul_right (by omega) h2
theorem mJ {i r:Nat} {a b c d:Int}:(if i=r then a else b)*(if i=r then c else d)=if i=r then a*c else b*d:=by
 by_cases e:i=r
 . rw [if_pos e,if_pos e,if_pos e]
 . rw [if_neg e,if_neg e,if_neg e]
theorem qY {V:Nat->Vec} {T:Tb} {r q i t:Nat}:V ((piv T r q).sd i) t=if i=r then V (T.hd q) t else V (T.sd i) t:=by
 unfold piv;by_cases e:i=r
 . simp only [e,if_true]
 . simp only [e,if_false]
theorem Inv.col {m n:Nat} {V R:Nat->Vec} {T:Tb} (I:Inv m n V R T) {q t:Nat} (hq:q < n) (ht:t < m):(sumN m fun i=>T.ln i q*V (T.sd i) t)= -(T.bot*V (T.hd q) t):=by
 rw [I.ln q t (by omega) ht]
 unfold Tb.W;rw [if_pos hq,Int.mul_neg]
theorem mj {m n:Nat} {V R:Nat->Vec} {T:Tb} (I:Inv m n V R T) {r q:Nat} (hr:r < m) (hq:q < n) {c t:Nat} (hc:c < n+2) (ht:t < m):
 (sumN m fun i=>(if i=r then -sg (T.ln r q)*T.bot*T.ln r c else T.num r q i c)*V ((piv T r q).sd i) t)=T.bot*(T.ln r q).natAbs*T.W V R n c t:=by
 have e1:∀i,i < m->(if i=r then -sg (T.ln r q)*T.bot*T.ln r c else T.num r q i c)*V ((piv T r q).sd i) t=if i=r then -sg (T.ln r q)*T.bot*T.ln r c*V (T.hd q) t else T.num r q i c*V (T.sd i) t:=by
  intro i hi;rw [qY (V:=V),mJ]
 rw [sumN_congr e1,eE hr,xS]
 have e2:∀i,i < m->T.num r q i c*V (T.sd i) t=(T.ln r q).natAbs*(T.ln i c*V (T.sd i) t)+(-(sg (T.ln r q)*T.ln r c))*(T.ln i q*V (T.sd i) t):=by
  intro i hi;unfold Tb.num;grind
 rw [sumN_congr e2,sumN_add,sumN_mul,sumN_mul,I.ln c t hc ht,I.col hq ht];grind
theorem uc {m n:Nat} {V R:Nat->Vec} {T:Tb} (I:Inv m n V R T) {r q:Nat} (hr:r < m) (hq:q < n) (hp:T.ln r q≠0) {c:Nat} (hc:c < n+2) {i:Nat} (hi:i < m) (hne:i≠r):
 ∃x:Int,T.num r q i c=T.bot*x/\x.natAbs=(det m (setV (fun i=>V ((piv T r q).sd i)) i (T.W V R n c))).natAbs:=by
 have h:=jk (fun i=>V ((piv T r q).sd i)) (T.bot*(T.ln r q).natAbs) (T.W V R n c) (fun i=>if i=r then -sg (T.ln r q)*T.bot*T.ln r c else T.num r q i c) (fun t ht=>(mj I hr hq hc ht).symm) i hi;obtain ⟨s,h1,h2,h3⟩:=xh (a:=det m fun i=>V ((piv T r q).sd i)) (b:=((T.ln r q).natAbs:Int)) (by rw [ml I hr hq];rfl)
 rw [h1] at h;simp only [hne,if_false] at h;have hz:((T.ln r q).natAbs:Int)≠0:=by omega
 refine ⟨s*det m (setV (fun i=>V ((piv T r q).sd i)) i (T.W V R n c)),Int.eq_of_mul_eq_mul_right hz ?_,?_⟩
 . generalize det m (setV (fun i=>V ((piv T r q).sd i)) i (T.W V R n c))=d at h;generalize T.num r q i c=u at h;generalize ((T.ln r q).natAbs:Int)=p at h;grind
 . rw [yT];have:s.natAbs*s.natAbs=1:=by rw [<-yT,h3];rfl
   rw [Nat.eq_one_of_mul_eq_one_right this,Nat.one_mul]
theorem ua {m n:Nat} {V R:Nat->Vec} {T:Tb} (I:Inv m n V R T) {r q:Nat} (hr:r < m) (hq:q < n) (hp:T.ln r q≠0) {c:Nat} (hc:c < n+2) {i:Nat} (hi:i < m) (hne:i≠r):
 T.bot*(T.num r q i c / T.bot)=T.num r q i c:=by
 obtain ⟨x,h,_⟩:=uc I hr hq hp hc hi hne;have:=I.pos;rw [h,zK _ (by omega)]
theorem piv_inv {m n:Nat} {V R:Nat->Vec} {T:Tb} (I:Inv m n V R T) {r q:Nat} (hr:r < m) (hq:q < n) (hp:T.ln r q≠0):Inv m n V R (piv T r q):=by
 refine ⟨?_,?_,?_⟩
 . show (0:Int) < (T.ln r q).natAbs;omega
 . rw [ml I hr hq];rfl
 . intro c t hc ht;by_cases e:c=q
   . subst e
     have e1:∀i,i < m->(piv T r c).ln i c*V ((piv T r c).sd i) t=if i=r then sg (T.ln r c)*T.bot*V (T.hd c) t else sg (T.ln r c)*(T.ln i c*V (T.sd i) t):=by
      intro i hi;rw [qY (V:=V)];show (if i=r then (if c=c then _ else _) else if c=c then _ else _)*_=_;rw [if_pos rfl,if_pos rfl,mJ,zt (sg _) (T.ln i c)]
     rw [sumN_congr e1,eE hr,sumN_mul,I.col hq ht];show _=((T.ln r c).natAbs:Int)*(if c < n then -V (if c=c then T.sd r else T.hd c) t else R c t);rw [if_pos hq,if_pos rfl,<-qt];grind
   . have e1:∀i,i < m->T.bot*((piv T r q).ln i c*V ((piv T r q).sd i) t)=(if i=r then -sg (T.ln r q)*T.bot*T.ln r c else T.num r q i c)*V ((piv T r q).sd i) t:=by
      intro i hi;show T.bot*((if i=r then (if c=q then _ else _) else if c=q then _ else _)*_)=_;rw [if_neg e,if_neg e,<-zt];congr 1;by_cases ei:i=r
      . rw [if_pos ei,if_pos ei];grind
      . rw [if_neg ei,if_neg ei];exact ua I hr hq hp hc hi ei
     have hb:T.bot≠0:=by have:=I.pos;omega
     refine Int.eq_of_mul_eq_mul_left hb ?_;rw [<-sumN_mul,sumN_congr e1,mj I hr hq hc ht,zt];congr 2;show (if c < n then -V (T.hd c) t else R c t)=(if c < n then -V (if c=q then T.sd r else T.hd c) t else R c t);rw [if_neg e]
noncomputable def fac:Nat->Nat
 |0=>1
 |n+1=>(n+1)*fac n
theorem tQ {n K:Nat} {f:Nat->Int} (h:∀i,i < n->(f i).natAbs<=K):(sumN n f).natAbs<=n*K:=by
 induction n with
 |zero=>exact yJ _
 |succ n ih=>
  rw [sumN,Nat.succ_mul];exact yC (Int.natAbs_add_le _ _) (Nat.add_le_add (ih fun i hi=>h i (by omega)) (h n (by omega)))
theorem m6:∀j:Nat,(sgn j).natAbs=1
 |0=>rfl
 |j+1=>by rw [sgn,zO,m6 j]
theorem lG {M:Nat}:∀(m:Nat) (B:Nat->Vec),(∀k c,k < m->c < m->(B k c).natAbs<=M)->(det m B).natAbs<=fac m*M^m
 |0,_,_=>yp _
 |m+1,B,h=>by
  rw [det,fac,Nat.mul_assoc];refine tQ fun j hj=> ?_;rw [yT,yT,m6,Nat.one_mul,Nat.pow_succ,<-Nat.mul_assoc,Nat.mul_comm];refine zM (lG m (skip j B) fun k c hk hc=> ?_) (h j 0 hj (by omega))
  unfold skip;split
  . exact h _ _ (by omega) (by omega)
  . exact h _ _ (by omega) (by omega)
theorem Inv.entry {m n:Nat} {V R:Nat->Vec} {T:Tb} (I:Inv m n V R T) {i c:Nat} (hi:i < m) (hc:c < n+2):(T.ln i c).natAbs=(Wg.det m (setV (fun i=>V (T.sd i)) i (T.W V R n c))).natAbs:=by
 have h:=congrArg Int.natAbs (jk (fun i=>V (T.sd i)) T.bot (T.W V R n c) (fun i=>T.ln i c) (fun t ht=>(I.ln c t hc ht).symm) i hi);rw [yT,yT,I.det,Nat.mul_comm] at h;have:=I.pos;exact (Nat.eq_of_mul_eq_mul_right (by omega) h).symm
theorem Inv.bot_le {m n M:Nat} {V R:Nat->Vec} {T:Tb} (I:Inv m n V R T) (hV:∀k t,t < m->(V k t).natAbs<=M):T.bot.natAbs<=fac m*M^m:=by
 rw [<-I.det];exact lG m _ fun k c hk hc=>hV _ c hc
theorem Inv.ln_le {m n M:Nat} {V R:Nat->Vec} {T:Tb} (I:Inv m n V R T) (hV:∀k t,t < m->(V k t).natAbs<=M) (hR:∀c t,c < n+2->t < m->(R c t).natAbs<=M) {i c:Nat} (hi:i < m) (hc:c < n+2):(T.ln i c).natAbs<=fac m*M^m:=by
 rw [I.entry hi hc];refine lG m _ fun k t hk ht=> ?_;by_cases e:k=i
 . subst e;rw [bE];unfold Tb.W;split
   . rw [zO];exact hV _ t ht
   . exact hR c t hc ht
 . rw [cn e];exact hV _ t ht
theorem eY {g:Nat->Nat->Int}:∀(m n:Nat),(sumN m fun i=>sumN n fun c=>g i c)=sumN n fun c=>sumN m fun i=>g i c
 |0,n=>by
  show 0=_;exact (sumN_zero fun c hc=>rfl).symm
 |m+1,n=>by
  show _+_=sumN n fun c=>(sumN m fun i=>g i c)+g m c;rw [sumN_add,eY m n]
theorem xZ {m:Nat} {B:Nat->Vec} (hB:det m B≠0) (y:Nat->Int) (h:∀t,t < m->(sumN m fun i=>y i*B i t)=0) {i:Nat} (hi:i < m):y i=0:=by
 have:=jk B 0 (fun _=>0) y (fun t ht=>by rw [h t ht];rfl) i hi
 rw [zk] at this;exact (Int.mul_eq_zero.1 this.symm).resolve_right hB
theorem Inv.nz {m n:Nat} {V R:Nat->Vec} {T:Tb} (I:Inv m n V R T):(Wg.det m fun i=>V (T.sd i))≠0:=by
 intro h;have h1:=I.det;have:=I.pos;rw [h] at h1;have h2:(0:Int).natAbs=0:=rfl;omega
theorem sumN_mulr {n:Nat} {x:Int} {f:Nat->Int}:(sumN n fun i=>f i*x)=sumN n f*x:=by
 rw [zy,<-sumN_mul];exact sumN_congr fun i hi=>zy _ _
theorem Inv.row {m n:Nat} {V R:Nat->Vec} {T:Tb} (I:Inv m n V R T) (x:Nat->Int) (b e:Int)
 (hx:∀t,t < m->((sumN m fun i=>x (T.sd i)*V (T.sd i) t)+sumN n fun c=>x (T.hd c)*V (T.hd c) t)=b*R n t+e*R (n+1) t) {i:Nat} (hi:i < m):
 T.bot*x (T.sd i)=(sumN n fun c=>T.ln i c*x (T.hd c))+b*T.ln i n+e*T.ln i (n+1):=by
 have key:=xZ I.nz (fun i=>T.bot*x (T.sd i)+ -1*((sumN n fun c=>T.ln i c*x (T.hd c))+b*T.ln i n+e*T.ln i (n+1))) (fun t ht=> ?_) hi
 . omega
 . have e1:∀i,i < m->(T.bot*x (T.sd i)+ -1*((sumN n fun c=>T.ln i c*x (T.hd c))+b*T.ln i n+e*T.ln i (n+1)))*V (T.sd i) t
    =T.bot*(x (T.sd i)*V (T.sd i) t)+ -1*((sumN n fun c=>T.ln i c*x (T.hd c)*V (T.sd i) t)+b*(T.ln i n*V (T.sd i) t)+e*(T.ln i (n+1)*V (T.sd i) t)):=by
    intro i hi;rw [sumN_mulr];grind
   rw [sumN_congr e1,sumN_add,sumN_mul,sumN_mul,sumN_add,sumN_add,sumN_mul,sumN_mul,eY]
   have e2:∀c,c < n->(sumN m fun i=>T.ln i c*x (T.hd c)*V (T.sd i) t)= -T.bot*(x (T.hd c)*V (T.hd c) t):=by
    intro c hc;rw [sumN_congr (g:=fun i=>x (T.hd c)*(T.ln i c*V (T.sd i) t)) fun i hi=>by grind,sumN_mul,I.col hc ht]
    grind
   rw [sumN_congr e2,sumN_mul,I.ln n t (by omega) ht,I.ln (n+1) t (by omega) ht]
   have w1:T.W V R n n t=R n t:=if_neg (by omega)
   have w2:T.W V R n (n+1) t=R (n+1) t:=if_neg (by omega)
   rw [w1,w2];have:=hx t ht;grind
theorem bM {f:Nat->Int}:∀ {n:Nat},(∀i,i < n->0<=f i)->0<=sumN n f
 |0,_=>Int.le_refl _
 |n+1,h=>by
  rw [sumN];have:=bM (n:=n) fun i hi=>h i (by omega)
  have:=h n (by omega)
  omega
theorem cF {f:Nat->Int} {k:Nat}:∀ {n:Nat},(∀i,i < n->0<=f i)->k < n->f k<=sumN n f
 |0,_,hk=>by omega
 |n+1,h,hk=>by
  rw [sumN];have h2:=h n (by omega)
  by_cases e:k=n
  . subst e;have:=bM (n:=k) fun i hi=>h i (by omega)
    omega
  . have:=cF (n:=n) (fun i hi=>h i (by omega)) (by omega:k < n)
    omega
theorem gl {f:Nat->Int} {k l:Nat}:∀ {n:Nat},(∀i,i < n->0<=f i)->k < n->l < n->k≠l->f k+f l<=sumN n f
 |0,_,hk,_,_=>by omega
 |n+1,h,hk,hl,hne=>by
  rw [sumN];have h2:=h n (by omega)
  by_cases e:k=n
  . subst e;have:=cF (k:=l) (n:=k) (fun i hi=>h i (by omega)) (by omega)
    omega
  . by_cases e2:l=n
    . subst e2;have:=cF (k:=k) (n:=l) (fun i hi=>h i (by omega)) (by omega)
      omega
    . have:=gl (n:=n) (fun i hi=>h i (by omega)) (by omega:k < n) (by omega:l < n) hne
      omega
def Pm (m n:Nat) (T:Tb):Prop:=∀f:Nat->Int,(sumN m fun i=>f (T.sd i))+(sumN n fun c=>f (T.hd c))=sumN (m+n) f
noncomputable def ind (k:Nat):Nat->Int:=fun x=>if x=k then 1 else 0
theorem cK (k x:Nat):0<=ind k x:=by unfold ind;split<;>omega
theorem c8 (k:Nat):ind k k=1:=if_pos rfl
theorem dB {k x:Nat} (h:x≠k):ind k x=0:=if_neg h
theorem iN {k N:Nat}:sumN N (ind k)<=1:=by
 by_cases h:k < N
 . rw [sumN_one h fun i hi hne=>dB hne,c8];exact Int.le_refl _
 . rw [sumN_zero fun i hi=>dB (by omega)]
   decide
theorem Pm.sd_lt {m n:Nat} {T:Tb} (P:Pm m n T) {i:Nat} (hi:i < m):T.sd i < m+n:=by
 refine Classical.byContradiction fun h=> ?_;have h1:=P (ind (T.sd i));rw [sumN_zero (f:=ind (T.sd i)) (n:=m+n) fun j hj=>dB (by omega)] at h1
 have h2:=cF (f:=fun j=>ind (T.sd i) (T.sd j)) (fun j hj=>cK _ _) hi;have h3:=bM (f:=fun c=>ind (T.sd i) (T.hd c)) (n:=n) fun j hj=>cK _ _;rw [c8] at h2;omega
theorem Pm.hd_lt {m n:Nat} {T:Tb} (P:Pm m n T) {c:Nat} (hc:c < n):T.hd c < m+n:=by
 refine Classical.byContradiction fun h=> ?_;have h1:=P (ind (T.hd c));rw [sumN_zero (f:=ind (T.hd c)) (n:=m+n) fun j hj=>dB (by omega)] at h1
 have h2:=cF (f:=fun j=>ind (T.hd c) (T.hd j)) (fun j hj=>cK _ _) hc;have h3:=bM (f:=fun j=>ind (T.hd c) (T.sd j)) (n:=m) fun j hj=>cK _ _;rw [c8] at h2;omega
theorem Pm.inj {m n:Nat} {T:Tb} (P:Pm m n T) {i j:Nat} (hi:i < m) (hj:j < m) (e:T.sd i=T.sd j):i=j:=by
 refine Classical.byContradiction fun h=> ?_;have h1:=P (ind (T.sd i));have h4:=iN (k:=T.sd i) (N:=m+n);have h2:=gl (f:=fun j=>ind (T.sd i) (T.sd j)) (fun j hj=>cK _ _) hi hj h;have h3:=bM (f:=fun c=>ind (T.sd i) (T.hd c)) (n:=n) fun j hj=>cK _ _;rw [<-e,c8] at h2;omega
theorem Pm.injh {m n:Nat} {T:Tb} (P:Pm m n T) {i j:Nat} (hi:i < n) (hj:j < n) (e:T.hd i=T.hd j):i=j:=by
 refine Classical.byContradiction fun h=> ?_;have h1:=P (ind (T.hd i));have h4:=iN (k:=T.hd i) (N:=m+n);have h2:=gl (f:=fun j=>ind (T.hd i) (T.hd j)) (fun j hj=>cK _ _) hi hj h;have h3:=bM (f:=fun c=>ind (T.hd i) (T.sd c)) (n:=m) fun j hj=>cK _ _;rw [<-e,c8] at h2;omega
theorem Pm.disj {m n:Nat} {T:Tb} (P:Pm m n T) {i c:Nat} (hi:i < m) (hc:c < n):T.sd i≠T.hd c:=by
 intro e;have h1:=P (ind (T.sd i));have h4:=iN (k:=T.sd i) (N:=m+n);have h2:=cF (f:=fun j=>ind (T.sd i) (T.sd j)) (fun j hj=>cK _ _) hi;have h3:=cF (f:=fun c=>ind (T.sd i) (T.hd c)) (fun j hj=>cK _ _) hc;rw [c8] at h2;rw [<-e,c8] at h3;omega
theorem Pm.cov {m n:Nat} {T:Tb} (P:Pm m n T) {k:Nat} (hk:k < m+n):(∃i,i < m/\T.sd i=k)\/∃c,c < n/\T.hd c=k:=by
 refine Classical.byContradiction fun h=> ?_;have h1:=P (ind k);rw [sumN_one hk fun i hi hne=>dB hne,c8,sumN_zero fun i hi=>dB fun e=>h (.inl ⟨i,hi,e⟩),sumN_zero fun i hi=>dB fun e=>h (.inr ⟨i,hi,e⟩)] at h1;omega
theorem Pm.piv {m n:Nat} {T:Tb} (P:Pm m n T) {r q:Nat} (hr:r < m) (hq:q < n):Pm m n (piv T r q):=by
 intro f
 have e1:(fun i=>f ((Wg.piv T r q).sd i))=fun i=>if i=r then f (T.hd q) else f (T.sd i):=by
  funext i;show f (if i=r then _ else _)=_;split<;>rfl
 have e2:(fun c=>f ((Wg.piv T r q).hd c))=fun c=>if c=q then f (T.sd r) else f (T.hd c):=by
  funext c;show f (if c=q then _ else _)=_;split<;>rfl
 rw [e1,e2,eE (f:=fun i=>f (T.sd i)) hr,eE (f:=fun i=>f (T.hd i)) hq,<-P f];omega
noncomputable def val (n:Nat) (M:Int) (T:Tb) (i:Nat):Int:=M*T.ln i n+T.ln i (n+1)
noncomputable def pt (m n:Nat) (M:Int) (T:Tb) (k:Nat):Int:=sumN m fun i=>if T.sd i=k then val n M T i else 0
theorem me {m n:Nat} {M:Int} {T:Tb} (P:Pm m n T) {i:Nat} (hi:i < m):pt m n M T (T.sd i)=val n M T i:=by
 unfold pt;rw [sumN_one hi fun j hj hne=>if_neg fun e=>hne (P.inj hj hi e),if_pos rfl]
theorem mh {m n:Nat} {M:Int} {T:Tb} (P:Pm m n T) {c:Nat} (hc:c < n):pt m n M T (T.hd c)=0:=by
 unfold pt;exact sumN_zero fun j hj=>if_neg (P.disj hj hc)
theorem qH {m n:Nat} {V R:Nat->Vec} {M:Int} {T T':Tb} (I:Inv m n V R T) (P:Pm m n T) (I':Inv m n V R T') (P':Pm m n T') {i:Nat} (hi:i < m):
 T'.bot*pt m n M T (T'.sd i)=(sumN n fun c=>T'.ln i c*pt m n M T (T'.hd c))+T.bot*val n M T' i:=by
 rw [I'.row (pt m n M T) (T.bot*M) T.bot (fun t ht=> ?_) hi]
 . unfold val;grind
 . rw [P' fun k=>pt m n M T k*V k t,<-P fun k=>pt m n M T k*V k t]
   have e1:∀i,i < m->pt m n M T (T.sd i)*V (T.sd i) t=M*(T.ln i n*V (T.sd i) t)+T.ln i (n+1)*V (T.sd i) t:=by
    intro i hi;rw [me P hi];unfold val;grind
   rw [sumN_congr e1,sumN_add,sumN_mul,sumN_zero (n:=n) (fun c hc=>by rw [mh P hc,zk]),I.ln n t (by omega) ht,I.ln (n+1) t (by omega) ht]
   have w1:T.W V R n n t=R n t:=if_neg (by omega)
   have w2:T.W V R n (n+1) t=R (n+1) t:=if_neg (by omega)
   rw [w1,w2];grind
theorem pH {f:Nat->Int} {k:Nat}:∀ {n:Nat},(∀i,i < n->f i<=0)->k < n->sumN n f<=f k:=by
 intro n h hk;have:=cF (f:=fun i=> -1*f i) (k:=k) (n:=n) (fun i hi=>by have:=h i hi;omega) hk
 rw [sumN_mul] at this;omega
structure Stp (m n:Nat) (M:Int) (T:Tb) (r q:Nat):Prop where
 hr:r < m
 hq:q < n
 sl:T.sd r < m
 neg:val n M T r < 0
 least:∀i,i < m->T.sd i < m->val n M T i < 0->T.sd r<=T.sd i
 pos:0 < T.ln r q
 head:∀c,c < n->0 < T.ln r c->T.hd q<=T.hd c
def side (m:Nat) (T:Tb) (k:Nat):Prop:=∃i,i < m/\T.sd i=k
theorem qp {m n:Nat} {T:Tb} (P:Pm m n T) {r q:Nat} (hr:r < m) (hq:q < n) {k:Nat}:side m (piv T r q) k↔(k=T.hd q\/(side m T k/\k≠T.sd r)):=by
 constructor
 . rintro ⟨i,hi,e⟩;have e':(if i=r then T.hd q else T.sd i)=k:=e;by_cases h:i=r
   . rw [if_pos h] at e';exact .inl e'.symm
   . rw [if_neg h] at e';refine .inr ⟨⟨i,hi,e'⟩,fun z=>h (P.inj hi hr (e'.trans z))⟩
 . rintro (e|⟨⟨i,hi,e⟩,hne⟩)
   . exact ⟨r,hr,(if_pos rfl).trans e.symm⟩
   . exact ⟨i,hi,(if_neg fun z=>hne (by rw [<-e,z])).trans e⟩
theorem yh {m n:Nat} {V R:Nat->Vec} {M:Int} {T T':Tb} (I:Inv m n V R T) (P:Pm m n T) (I':Inv m n V R T') (P':Pm m n T') {r q r' q':Nat}
 (S:Stp m n M T r q) (S':Stp m n M T' r' q') (e:T.sd r=T'.hd q')
 (ha:T'.sd r' < T.sd r) (hb:∀c,c < n->c≠q'->T'.hd c < T.sd r\/¬side m T (T'.hd c)):False:=by
 have nn:∀k,k < T.sd r->0<=pt m n M T k:=by
  intro k hk;have hkm:k < m+n:=by have:=P.sd_lt S.hr;omega
  rcases P.cov hkm with ⟨i,hi,e⟩|⟨c,hc,e⟩
  . rw [<-e,me P hi];refine Classical.byContradiction fun h=> ?_;have:=S.least i hi (by have:=S.sl;omega) (by omega)
    omega
  . rw [<-e,mh P hc];exact Int.le_refl _
 have h:=qH (M:=M) I P I' P' S'.hr;have h1:0<=T'.bot*pt m n M T (T'.sd r'):=Int.mul_nonneg (by have:=I'.pos;omega) (nn _ ha)
 have h2:T.bot*val n M T' r' < 0:=Int.mul_neg_of_pos_of_neg I.pos S'.neg
 have h3:∀c,c < n->T'.ln r' c*pt m n M T (T'.hd c)<=0:=by
  intro c hc;by_cases ec:c=q'
  . subst ec;rw [<-e,me P S.hr];exact Int.le_of_lt (Int.mul_neg_of_pos_of_neg S'.pos S.neg)
  . rcases hb c hc ec with hl|hs
    . have hn:T'.ln r' c<=0:=by
       refine Classical.byContradiction fun z=> ?_;have:=S'.head c hc (by omega)
       omega
      exact Int.mul_nonpos_of_nonpos_of_nonneg hn (nn _ hl)
    . have:pt m n M T (T'.hd c)=0:=by
       rcases P.cov (P'.hd_lt hc) with h|⟨d,hd,e⟩
       . exact absurd h hs
       . rw [<-e,mh P hd]
      rw [this,zw];exact Int.le_refl _
 have h4:=pH h3 S'.hq;have h5:=h3 q' S'.hq;omega
theorem jX {P:Nat->Prop} {a:Nat} (ha:P a):∀N:Nat,(∀k,P k->k < N)->∃g,P g/\∀k,P k->k<=g
 |0,h=>absurd (h a ha) (by omega)
 |N+1,h=>by
  by_cases z:P N
  . exact ⟨N,z,fun k hk=>by have:=h k hk;omega⟩
  . refine jX ha N fun k hk=> ?_;have:=h k hk;have:k≠N:=fun e=>z (e▸hk);omega
structure Rn (m n:Nat) (V R:Nat->Vec) (M:Int) (T:Nat->Tb) (r q:Nat->Nat) (J:Nat):Prop where
 inv:Inv m n V R (T 0)
 pm:Pm m n (T 0)
 st:∀j,j < J->Stp m n M (T j) (r j) (q j)
 nx:∀j,j < J->T (j+1)=piv (T j) (r j) (q j)
section
variable {m n:Nat} {V R:Nat->Vec} {M:Int} {T:Nat->Tb} {r q:Nat->Nat} {J:Nat}
theorem Rn.all (H:Rn m n V R M T r q J):∀j,j<=J->Inv m n V R (T j)/\Pm m n (T j)
 |0,_=>⟨H.inv,H.pm⟩
 |j+1,h=>by
  have ⟨I,P⟩:=H.all j (by omega)
  have S:=H.st j (by omega)
  rw [H.nx j (by omega)]
  exact ⟨piv_inv I S.hr S.hq (by have:=S.pos;omega),P.piv S.hr S.hq⟩
theorem Rn.side (H:Rn m n V R M T r q J) {j k:Nat} (h:j < J):side m (T (j+1)) k↔(k=(T j).hd (q j)\/(side m (T j) k/\k≠(T j).sd (r j))):=by
 have S:=H.st j h;rw [H.nx j h];exact qp (H.all j (by omega)).2 S.hr S.hq
theorem Rn.leaves (H:Rn m n V R M T r q J) {k a:Nat} (ha:Wg.side m (T a) k):∀d,a+d<=J->¬Wg.side m (T (a+d)) k->∃j,j < J/\(T j).sd (r j)=k
 |0,_,h=>absurd ha h
 |d+1,hd,h=>by
  by_cases z:Wg.side m (T (a+d)) k
  . refine ⟨a+d,by omega,?_⟩
    refine Classical.byContradiction fun hne=>h ?_;exact (H.side (j:=a+d) (by omega)).2 (.inr ⟨z,fun e=>hne e.symm⟩)
  . exact H.leaves ha d (by omega) z
theorem Rn.enters (H:Rn m n V R M T r q J) {k a:Nat} (ha:¬Wg.side m (T a) k):∀d,a+d<=J->Wg.side m (T (a+d)) k->∃j,j < J/\(T j).hd (q j)=k
 |0,_,h=>absurd h ha
 |d+1,hd,h=>by
  by_cases z:Wg.side m (T (a+d)) k
  . exact H.enters ha d (by omega) z
  . rcases (H.side (j:=a+d) (by omega)).1 h with e|⟨z2,_⟩
    . exact ⟨a+d,by omega,e.symm⟩
    . exact absurd z2 z
theorem Rn.const (H:Rn m n V R M T r q J) {k:Nat} (hk:¬∃j,j < J/\((T j).sd (r j)=k\/(T j).hd (q j)=k)):∀j,j<=J->(Wg.side m (T j) k↔Wg.side m (T 0) k)
 |0,_=>Iff.rfl
 |j+1,h=>by
  rw [<-H.const hk j (by omega),H.side (j:=j) (by omega)]
  constructor
  . rintro (e|⟨z,_⟩)
    . exact absurd ⟨j,by omega, .inr e.symm⟩ hk
    . exact z
  . exact fun z=> .inr ⟨z,fun e=>hk ⟨j,by omega, .inl e.symm⟩⟩
theorem Rn.no_circle (H:Rn m n V R M T r q J) (hJ:0 < J) (same:∀k,Wg.side m (T 0) k↔Wg.side m (T J) k):False:=by
 have lv:∀j,j < J->Wg.side m (T j) ((T j).sd (r j)):=fun j h=>⟨r j,(H.st j h).hr,rfl⟩;have en:∀j,j < J->¬Wg.side m (T j) ((T j).hd (q j)):=fun j h ⟨i,hi,e⟩=>(H.all j (by omega)).2.disj hi (H.st j h).hq e
 have ne:∀j,j < J->(T j).sd (r j)≠(T j).hd (q j):=fun j h=>(H.all j (by omega)).2.disj (H.st j h).hr (H.st j h).hq
 obtain ⟨g,hg,hgr⟩:=jX (P:=fun k=>∃j,j < J/\((T j).sd (r j)=k\/(T j).hd (q j)=k)) ⟨0,hJ, .inl rfl⟩ (m+n) (by
  rintro k ⟨j,hj,e|e⟩
  . rw [<-e];exact (H.all j (by omega)).2.sd_lt (H.st j hj).hr
  . rw [<-e];exact (H.all j (by omega)).2.hd_lt (H.st j hj).hq)
 have both:(∃j,j < J/\(T j).sd (r j)=g)/\∃j,j < J/\(T j).hd (q j)=g:=by
  obtain ⟨j,hj,e|e⟩:=hg
  . refine ⟨⟨j,hj,e⟩,?_⟩;have s1:Wg.side m (T j) g:=e▸lv j hj
    have s2:¬Wg.side m (T (j+1)) g:=by
     rw [H.side hj];rintro (z|⟨_,z⟩)
     . exact ne j hj (e.trans z)
     . exact z e.symm
    by_cases z:Wg.side m (T 0) g
    . have:=(same g).1 z;obtain ⟨d,rfl⟩:∃d,J=j+1+d:=⟨J - j - 1,by omega⟩
      exact H.enters s2 d (yp _) this
    . exact H.enters (a:=0) z j (by omega) (by rw [Nat.zero_add];exact s1)
  . refine ⟨?_,⟨j,hj,e⟩⟩;have s1:¬Wg.side m (T j) g:=e▸en j hj;have s2:Wg.side m (T (j+1)) g:=(H.side hj).2 (.inl e.symm);by_cases z:Wg.side m (T 0) g
    . exact H.leaves (a:=0) z j (by omega) (by rw [Nat.zero_add];exact s1)
    . have:¬Wg.side m (T J) g:=fun y=>z ((same g).2 y);obtain ⟨d,rfl⟩:∃d,J=j+1+d:=⟨J - j - 1,by omega⟩
      exact H.leaves s2 d (yp _) this
 obtain ⟨⟨j1,h1,e1⟩,⟨j2,h2,e2⟩⟩:=both;have A1:=H.all j1 (by omega)
 have A2:=H.all j2 (by omega)
 refine yh A1.1 A1.2 A2.1 A2.2 (H.st j1 h1) (H.st j2 h2) (e1.trans e2.symm) ?_ ?_
 . have:=hgr _ ⟨j2,h2, .inl rfl⟩;have:=ne j2 h2;omega
 . intro c hc hne;have hcg:(T j2).hd c≠g:=fun e=>hne (A2.2.injh hc (H.st j2 h2).hq (e.trans e2.symm));by_cases f:∃j,j < J/\((T j).sd (r j)=(T j2).hd c\/(T j).hd (q j)=(T j2).hd c)
   . have:=hgr _ f;exact .inl (by omega)
   . refine .inr fun z=> ?_;have:=(H.const f j2 (by omega)).2 ((H.const f j1 (by omega)).1 z)
     obtain ⟨i,hi,e⟩:=this;exact A2.2.disj hi hc e
end
theorem vj:∀(K J:Nat) (f:Nat->Nat),(∀i,i<=J->f i < K)->(∀i j,i<=J->j<=J->f i=f j->i=j)->J < K
 |0,J,f,h,_=>absurd (h 0 (by omega)) (by omega)
 |K+1,0,f,_,_=>by omega
 |K+1,J+1,f,h,inj=>by
  have:=vj K J (fun i=>if f i=K then f (J+1) else f i) (fun i hi=>by
   by_cases e:f i=K
   . have h1:=h (J+1) (by omega)
     have h2:f (J+1)≠K:=fun z=>by have:=inj i (J+1) (by omega) (by omega) (e.trans z.symm);omega
     simp only [e,if_true];omega
   . have:=h i (by omega)
     simp only [e,if_false]
     omega) (fun i j hi hj e=>by
   by_cases a:f i=K
   . by_cases b:f j=K
     . exact inj i j (by omega) (by omega) (a.trans b.symm)
     . simp only [a,b,if_true,if_false] at e;have:=inj _ _ (by omega) (by omega) e
       omega
   . by_cases b:f j=K
     . simp only [a,b,if_true,if_false] at e;have:=inj _ _ (by omega) (by omega) e
       omega
     . simp only [a,b,if_false] at e
       exact inj _ _ (by omega) (by omega) e)
  omega
open Classical in
noncomputable def code (S:Nat->Prop):Nat->Nat
 |0=>0
 |k+1=>2*code S k+if S k then 1 else 0
theorem nU (S:Nat->Prop):∀N,code S N < 2^N
 |0=>by rw [code];decide
 |N+1=>by
  have:=nU S N;rw [code,Nat.pow_succ];split<;>omega
theorem gX {S S':Nat->Prop}:∀N,code S N=code S' N->∀k,k < N->(S k↔S' k)
 |0,_,k,hk=>by omega
 |N+1,h,k,hk=>by
  rw [code,code] at h;by_cases a:S N
  . by_cases b:S' N
    . rw [if_pos a,if_pos b] at h;by_cases e:k=N
      . subst e;exact ⟨fun _=>b,fun _=>a⟩
      . exact gX N (by omega) k (by omega)
    . rw [if_pos a,if_neg b] at h;omega
  . by_cases b:S' N
    . rw [if_neg a,if_pos b] at h;omega
    . rw [if_neg a,if_neg b] at h;by_cases e:k=N
      . subst e;exact ⟨fun z=>absurd z a,fun z=>absurd z b⟩
      . exact gX N (by omega) k (by omega)
section
variable {m n:Nat} {V R:Nat->Vec} {M:Int} {T:Nat->Tb} {r q:Nat->Nat} {J:Nat}
theorem Rn.part (H:Rn m n V R M T r q J) {i d:Nat} (h:i+d<=J):Rn m n V R M (fun k=>T (i+k)) (fun k=>r (i+k)) (fun k=>q (i+k)) d:=
 ⟨(H.all i (by omega)).1,(H.all i (by omega)).2,fun j hj=>H.st (i+j) (by omega),fun j hj=>H.nx (i+j) (by omega)⟩
theorem Rn.no_twice (H:Rn m n V R M T r q J) {i j:Nat} (hij:i < j) (hj:j<=J) (e:code (Wg.side m (T i)) (m+n)=code (Wg.side m (T j)) (m+n)):False:=by
 obtain ⟨d,rfl⟩:∃d,j=i+d:=⟨j - i,by omega⟩
 refine (H.part hj).no_circle (by omega) fun k=> ?_
 show Wg.side m (T i) k↔Wg.side m (T (i+d)) k;by_cases hk:k < m+n
 . exact gX (m+n) e k hk
 . constructor
   . rintro ⟨a,ha,z⟩;have:=(H.all i (by omega)).2.sd_lt ha
     omega
   . rintro ⟨a,ha,z⟩;have:=(H.all (i+d) hj).2.sd_lt ha;omega
theorem Rn.few (H:Rn m n V R M T r q J):J < 2^(m+n):=by
 refine vj (2^(m+n)) J (fun i=>code (Wg.side m (T i)) (m+n)) (fun i hi=>nU _ _) fun i j hi hj e=> ?_;rcases Nat.lt_trichotomy i j with h|h|h
 . exact (H.no_twice h hj e).elim
 . exact h
 . exact (H.no_twice h hi e.symm).elim
end
def Stl (m n k:Nat) (T:Tb):Prop:=∀c,c < k->c < n->m<=T.hd c->∀i,i < m->T.sd i < m->T.ln i c=0
theorem Stl.piv {m n k:Nat} {V R:Nat->Vec} {T:Tb} (I:Inv m n V R T) (h:Stl m n k T) {r q:Nat} (hr:r < m) (hq:q < n) (hs:T.sd r < m) (hp:T.ln r q≠0):Stl m n k (piv T r q):=by
 intro c hc hn hh i hi hsi;have hh':m<=if c=q then T.sd r else T.hd c:=hh;have hsi':(if i=r then T.hd q else T.sd i) < m:=hsi;have e:c≠q:=fun e=>by rw [if_pos e] at hh';omega
 rw [if_neg e] at hh';show (if i=r then (if c=q then _ else _) else if c=q then _ else T.num r q i c / T.bot)=0;rw [if_neg e,if_neg e];have z:=h c hc hn hh' r hr hs;by_cases ei:i=r
 . rw [if_pos ei,z,zw]
 . rw [if_neg ei] at hsi' ⊢;have z2:=h c hc hn hh' i hi hsi';unfold Tb.num;rw [z,z2];simp
theorem k9:∀(m:Nat) (B:Nat->Vec),(∀k c,k < m->c < m->B k c=if k=c then 1 else 0)->det m B=1
 |0,_,_=>rfl
 |m+1,B,h=>by
  rw [det,sumN_one (k:=0) (by omega)]
  . rw [h 0 0 (by omega) (by omega),if_pos rfl,k9 m (skip 0 B)]
    . rfl
    . intro k c hk hc;unfold skip;rw [if_neg (by omega),h (k+1) (c+1) (by omega) (by omega)]
      by_cases e:k=c
      . rw [if_pos e,if_pos (by omega)]
      . rw [if_neg e,if_neg (by omega)]
  . intro j hj hne;rw [h j 0 hj (by omega),if_neg hne,zw,zk]
theorem gm {f:Nat->Int} {m:Nat}:∀n:Nat,sumN m f+(sumN n fun c=>f (m+c))=sumN (m+n) f
 |0=>by
  show sumN m f+0=sumN m f;omega
 |n+1=>by
  show sumN m f+((sumN n fun c=>f (m+c))+f (m+n))=sumN (m+n) f+f (m+n);rw [<-gm n];omega
noncomputable def tb0 (m:Nat) (L:Nat->Nat->Int):Tb:=⟨1,L,fun i=>i,fun c=>m+c⟩
noncomputable def V0 (m:Nat) (L:Nat->Nat->Int):Nat->Vec:=fun k t=>if k < m then (if k=t then 1 else 0) else -L t (k - m)
noncomputable def R0 (L:Nat->Nat->Int):Nat->Vec:=fun c t=>L t c
theorem inv0 {m n:Nat} {L:Nat->Nat->Int}:Inv m n (V0 m L) (R0 L) (tb0 m L):=by
 refine ⟨(by decide:(0:Int) < 1),?_,?_⟩
 . rw [k9 m _ fun k c hk hc=>by
    show (if k < m then (if k=c then (1:Int) else 0) else _)=_
    rw [if_pos hk]]
   rfl
 . intro c t hc ht
   rw [sumN_one (k:=t) ht fun i hi hne=>by
    show L i c*(if i < m then (if i=t then (1:Int) else 0) else _)=0
    rw [if_pos hi,if_neg hne,zw]]
   show L t c*(if t < m then (if t=t then (1:Int) else 0) else _)=1*(if c < n then -(if m+c < m then (if m+c=t then (1:Int) else 0) else -L t (m+c - m)) else L t c);rw [if_pos ht,if_pos rfl,if_neg (by omega:¬m+c < m),Nat.add_sub_cancel_left]
   split<;>omega
theorem pm0 {m n:Nat} {L:Nat->Nat->Int}:Pm m n (tb0 m L):=fun f=>gm n
theorem lex_neg {u v M:Int} (h:v.natAbs < M.natAbs) (hM:0 < M):(u < 0\/(u=0/\v < 0))↔M*u+v < 0:=by
 constructor
 . rintro (z|⟨z,y⟩)
   . have:M*u<=M* -1:=Int.mul_le_mul_of_nonneg_left (by omega) (by omega)
     omega
   . rw [z];omega
 . intro z;rcases Int.lt_trichotomy u 0 with y|y|y
   . exact .inl y
   . subst y;exact .inr ⟨rfl,by omega⟩
   . have:M*1<=M*u:=Int.mul_le_mul_of_nonneg_left (by omega) (by omega)
     omega
noncomputable def sol (m n:Nat) (L:Nat->Nat->Int) (y:Nat->Int) (b e:Int):Nat->Int:=
 fun k=>if k < m then (sumN n fun c=>L k c*y c)+b*L k n+e*L k (n+1) else y (k - m)
theorem tS {m n:Nat} {L:Nat->Nat->Int} {T:Tb} (I:Inv m n (V0 m L) (R0 L) T) (P:Pm m n T) (y:Nat->Int) (b e:Int) {i:Nat} (hi:i < m):
 T.bot*sol m n L y b e (T.sd i)=(sumN n fun c=>T.ln i c*sol m n L y b e (T.hd c))+b*T.ln i n+e*T.ln i (n+1):=by
 refine I.row (sol m n L y b e) b e (fun t ht=> ?_) hi
 rw [P fun k=>sol m n L y b e k*V0 m L k t,<-gm n,sumN_one (k:=t) ht fun k hk hne=>by
  show _*(if k < m then (if k=t then (1:Int) else 0) else _)=0
  rw [if_pos hk,if_neg hne,zw]]
 have e1:∀c,c < n->sol m n L y b e (m+c)*V0 m L (m+c) t= -1*(L t c*y c):=by
  intro c hc;show (if m+c < m then _ else y (m+c - m))*(if m+c < m then _ else -L t (m+c - m))=_;rw [if_neg (by omega),if_neg (by omega),Nat.add_sub_cancel_left]
  grind
 rw [sumN_congr e1,sumN_mul];show (if t < m then _ else _)*(if t < m then (if t=t then (1:Int) else 0) else _)+_=b*L t n+e*L t (n+1);rw [if_pos ht,if_pos ht,if_pos rfl];omega
noncomputable def wt (n:Nat) (T:Tb) (i k:Nat):Int:=(if k=T.sd i then T.bot else 0)+sumN n fun c=>if k=T.hd c then -T.ln i c else 0
section
variable {m n:Nat} {L:Nat->Nat->Int} {T:Tb}
theorem i9 {N j:Nat} {a:Int} {s:Nat->Int} (h:j < N):(sumN N fun k=>(if k=j then a else 0)*s k)=a*s j:=by
 rw [sumN_one (k:=j) h fun k hk hne=>by rw [if_neg hne,zk],if_pos rfl]
theorem wt_sum (P:Pm m n T) (S:Stl m n n T) {i:Nat} (hi:i < m) (hs:T.sd i < m) (s:Nat->Int):
 (sumN m fun k=>wt n T i k*s k)=T.bot*s (T.sd i)+sumN n fun c=> -T.ln i c*s (T.hd c):=by
 have e1:∀k,k < m->wt n T i k*s k=(if k=T.sd i then T.bot else 0)*s k+sumN n fun c=>(if k=T.hd c then -T.ln i c else 0)*s k:=by
  intro k hk;unfold wt;rw [Int.add_mul,sumN_mulr]
 rw [sumN_congr e1,sumN_add,i9 hs,eY];congr 1;refine sumN_congr fun c hc=> ?_;by_cases h:T.hd c < m
 . exact i9 h
 . rw [S c hc hc (by omega) i hi hs,sumN_zero fun k hk=>by rw [if_neg (by omega),zk]]
   rw [Int.neg_zero,zk]
theorem iE (I:Inv m n (V0 m L) (R0 L) T) (P:Pm m n T) (S:Stl m n n T) {i:Nat} (hi:i < m) (hs:T.sd i < m) (y:Nat->Int) (b e:Int):
 (sumN m fun k=>wt n T i k*sol m n L y b e k)=b*T.ln i n+e*T.ln i (n+1):=by
 rw [wt_sum P S hi hs,tS I P y b e hi]
 have:(sumN n fun c=> -T.ln i c*sol m n L y b e (T.hd c))= -1*sumN n fun c=>T.ln i c*sol m n L y b e (T.hd c):=by
  rw [<-sumN_mul];exact sumN_congr fun c hc=>by grind
 rw [this];omega
theorem wt_term (I:Inv m n (V0 m L) (R0 L) T) (P:Pm m n T) (S:Stl m n n T) {i:Nat} (hi:i < m) (hs:T.sd i < m) {c:Nat} (hc:c < n):(sumN m fun k=>wt n T i k*L k c)=0:=by
 have h:=iE I P S hi hs (ind c) 0 0;rw [zk,zk] at h;rw [<-h.trans (by omega:(0:Int)+0=0)]
 refine sumN_congr fun k hk=> ?_;show _=_*(if k < m then _ else _);rw [if_pos hk,sumN_one (k:=c) hc fun d hd hne=>by rw [dB hne,zw],c8]
 grind
theorem wt_last (I:Inv m n (V0 m L) (R0 L) T) (P:Pm m n T) (S:Stl m n n T) {i:Nat} (hi:i < m) (hs:T.sd i < m):(sumN m fun k=>wt n T i k*L k n)=T.ln i n/\(sumN m fun k=>wt n T i k*L k (n+1))=T.ln i (n+1):=by
 have z:∀k,(sumN n fun c=>L k c*(0:Int))=0:=fun k=>sumN_zero fun c hc=>zw _;constructor
 . have h:=iE I P S hi hs (fun _=>0) 1 0;rw [<-(h.trans (by omega:_=T.ln i n))]
   refine sumN_congr fun k hk=> ?_;show _=_*(if k < m then _ else _);rw [if_pos hk,z];grind
 . have h:=iE I P S hi hs (fun _=>0) 0 1;rw [<-(h.trans (by omega:_=T.ln i (n+1)))]
   refine sumN_congr fun k hk=> ?_;show _=_*(if k < m then _ else _);rw [if_pos hk,z];grind
theorem pt_meets (I:Inv m n (V0 m L) (R0 L) T) (P:Pm m n T) {K:Int} (h:∀i,i < m->T.sd i < m->0<=val n K T i) {k:Nat} (hk:k < m):
 0<=(sumN n fun c=>L k c*pt m n K T (m+c))+T.bot*(K*L k n+L k (n+1)):=by
 have r:=qH (M:=K) I P (inv0 (m:=m) (n:=n) (L:=L)) pm0 hk;have e:(1:Int)*pt m n K T k=(sumN n fun c=>L k c*pt m n K T (m+c))+T.bot*(K*L k n+L k (n+1)):=r;rw [<-e,Int.one_mul];rcases P.cov (k:=k) (by omega) with ⟨i,hi,z⟩|⟨c,hc,z⟩
 . rw [<-z,me P hi];exact h i hi (by omega)
 . rw [<-z,mh P hc];exact Int.le_refl _
theorem parts_ok {u v K:Int} (h:0 < u) (hK:-(v / u)<=K):0<=K*u+v:=by
 have h1:=Int.mul_ediv_add_emod v u;have h2:=Int.emod_nonneg v (by omega:u≠0)
 have h3:0<=(K+v / u)*u:=Int.mul_nonneg (by omega) (by omega)
 rw [Int.add_mul,zy (v / u)] at h3;omega
end
noncomputable def ls {α:Type} (n:Nat) (f:Nat->α):List α:=(List.range n).map f
theorem ls_len {α:Type} {n:Nat} {f:Nat->α}:(ls n f).length=n:=by unfold ls;rw [yi,z7]
theorem ls_at {α:Type} {n i:Nat} {f:Nat->α} (h:i < n):(ls n f)[i]?=some (f i):=by
 unfold ls;rw [yo,List.getElem?_range h];rfl
theorem ls_congr {α:Type} {n:Nat} {f g:Nat->α} (h:∀i,i < n->f i=g i):ls n f=ls n g:=List.map_congr_left fun i hi=>h i (yX.1 hi)
theorem rJ {α β:Type} {n:Nat} {f:Nat->α} {g:α->β}:(ls n f).map g=ls n fun i=>g (f i):=by
 unfold ls;rw [zI];rfl
theorem wG {α β γ:Type} {n:Nat} {f:Nat->α} {g:Nat->β} {h:α->β->γ}:List.zipWith h (ls n f) (ls n g)=ls n fun i=>h (f i) (g i):=by
 unfold ls;rw [List.zipWith_map,List.zipWith_self]
theorem j8 {α:Type} {n q:Nat} {f:Nat->α} {a:α}:(ls n f).set q a=ls n fun i=>if i=q then a else f i:=by
 refine zQ fun i=> ?_;rw [List.getElem?_set,ls_len];by_cases hi:i < n
 . rw [ls_at hi,ls_at hi];by_cases e:q=i
   . subst e;rw [if_pos rfl,if_pos hi,if_pos rfl]
   . rw [if_neg e,if_neg fun z=>e z.symm]
 . have o:∀g:Nat->α,(ls n g)[i]?=none:=fun g=>zb (by rw [ls_len];omega)
   rw [o,o];by_cases e:q=i
   . subst e;rw [if_pos rfl,if_neg hi]
   . rw [if_neg e]
theorem turned0 {n r q i:Nat} {T:Tb} (hi:i≠r) (h:sg (T.ln r q)*T.ln i q=0):((ls (n+2) (T.ln i)).map fun x=>x*((T.ln r q).natAbs:Int) / T.bot)=ls (n+2) ((piv T r q).ln i):=by
 rw [rJ];refine ls_congr fun c hc=> ?_;show _=if i=r then _ else if c=q then _ else T.num r q i c / T.bot;rw [if_neg hi];by_cases e:c=q
 . subst e;rw [if_pos rfl,h]
   have hz:T.ln i c=0:=by
    have:=xy (T.ln r c);have h2:sg (T.ln r c)*(sg (T.ln r c)*T.ln i c)=0:=by rw [h,zw]
    rw [<-zt,this,Int.one_mul] at h2;exact h2
   rw [hz,zk,Int.zero_ediv]
 . rw [if_neg e];unfold Tb.num;rw [h,zk,Int.sub_zero]
theorem turned1 {n r q i:Nat} {T:Tb} (hi:i≠r):(List.zipWith (fun x y=>(x*((T.ln r q).natAbs:Int) - sg (T.ln r q)*T.ln i q*y) / T.bot) (ls (n+2) (T.ln i)) (ls (n+2) (T.ln r))).set q (sg (T.ln r q)*T.ln i q)=ls (n+2) ((piv T r q).ln i):=by
 rw [wG,j8];refine ls_congr fun c hc=> ?_;show _=if i=r then _ else if c=q then _ else T.num r q i c / T.bot;rw [if_neg hi];rfl
theorem turnedR {n r q:Nat} {T:Tb}:((ls (n+2) (T.ln r)).map fun x=> -sg (T.ln r q)*x).set q (sg (T.ln r q)*T.bot)=ls (n+2) ((piv T r q).ln r):=by
 rw [rJ,j8];refine ls_congr fun c hc=> ?_;show _=if r=r then (if c=q then _ else _) else _;rw [if_pos rfl]
theorem piv_sides {m r q:Nat} {T:Tb}:(ls m T.sd).set r (T.hd q)=ls m (piv T r q).sd:=by
 rw [j8];rfl
theorem piv_heads {n r q:Nat} {T:Tb}:(ls n T.hd).set q (T.sd r)=ls n (piv T r q).hd:=by
 rw [j8];rfl
theorem Stl.next {m n k:Nat} {T:Tb} (h:Stl m n k T) (hk:∀i,i < m->T.sd i < m->T.ln i k=0):Stl m n (k+1) T:=by
 intro c hc hn hh i hi hs;by_cases e:c=k
 . subst e;exact hk i hi hs
 . exact h c (by omega) hn hh i hi hs
theorem Stl.turn {m n k:Nat} {V R:Nat->Vec} {T:Tb} (I:Inv m n V R T) (h:Stl m n k T) {r:Nat} (hr:r < m) (hk:k < n) (hs:T.sd r < m) (hp:T.ln r k≠0):Stl m n (k+1) (Wg.piv T r k):=by
 intro c hc hn hh i hi hsi;by_cases e:c=k
 . subst e;have:m<=if c=c then T.sd r else T.hd c:=hh;rw [if_pos rfl] at this;omega
 . exact Stl.piv I h hr hk hs hp c (by omega) hn hh i hi hsi
end Wg
namespace K45
open PySem L2 Mth Tre Wd Su Tw Fm
theorem ci {X:Cx} {K:PySem.W.Frag} {e:Expr} {f:Str} {pos:Pos} {ta:TE} (hK:X.K=K) (he:PE X e ta) (hb:attributeBase e f X.env (eval e X.env)=eval e X.env):PE X (.Attribute e f pos) (tFld K ta f):=by
 subst hK;exact aM he hb
theorem fi {σ:L2.St} {H:Hp} {A B:Hp->Prop} (h:A H):cZ σ H fun b H5=>if b=true then A H5 else B H5:=by
 show if true=true then A H else B H;rw [if_pos rfl];exact h
structure Tk (K:PySem.W.Frag) (C:Addr):Prop where
 cls:Cls K C
 nt:NoAttr K C "terms"
 ns:NoAttr K C "scales"
 nl:NoAttr K C "lines"
 nb:NoAttr K C "bottom"
 nd:NoAttr K C "sides"
 nh:NoAttr K C "heads"
structure TA where
 C:Addr
 a:Addr
 dx:Addr
 pt:Addr
 psc:Addr
 pss:Addr
 ph:Addr
noncomputable def flds (D:TA) (pl:Addr) (b:Int):List (Str×V):= [(Str.ofString "terms", .ref D.pt),(Str.ofString "scales", .ref D.psc),(Str.ofString "lines", .ref pl),(Str.ofString "bottom", .int b),(Str.ofString "sides", .ref D.pss),(Str.ofString "heads", .ref D.ph)]
def Rws (H:Hp) (D:TA) (ls:List V) (m:Nat) (f:Nat->List Int):Prop:=ls.length=m/\∀i,i < m->∃q,ls[i]?=some (.ref q)/\H q=some (.lst ((f i).map V.int))/\q≠D.pss/\q≠D.ph
structure Tab (D:TA) (m n:Nat) (scs:List Int) (us:List Tr) (ws:List V) (pl:Addr) (ls:List V) (T:Wg.Tb) (H:Hp):Prop where
 ob:H D.a=some (.ins D.C D.dx (flds D pl T.bot))
 tm:H D.pt=some (.lst ws)
 tt:TrsAt H ws us
 ul:us.length=n
 sc:H D.psc=some (.lst (scs.map V.int))
 sl:scs.length=m
 li:H pl=some (.lst ls)
 ro:Rws H D ls m fun i=>Wg.ls (n+2) (T.ln i)
 sd:H D.pss=some (.lst (nv (Wg.ls m T.sd)))
 hd:H D.ph=some (.lst (nv (Wg.ls n T.hd)))
 n1:D.pss≠D.pt
 n2:D.pss≠D.psc
 n3:D.pss≠D.ph
 n4:D.pss≠pl
 n5:D.ph≠D.pt
 n6:D.ph≠D.psc
 n7:D.ph≠pl
 m64:m<=64
 n64:n<=64
theorem Rws.keep {H H':Hp} {D:TA} {ls:List V} {m:Nat} {f:Nat->List Int} (k:∀q,q≠D.pss->q≠D.ph->∀xs,H q=some (.lst xs)->H' q=some (.lst xs)) (h:Rws H D ls m f):Rws H' D ls m f:=by
 refine ⟨h.1,fun i hi=> ?_⟩;obtain ⟨q,a,b,c,d⟩:=h.2 i hi;exact ⟨q,a,k q c d _ b,c,d⟩
theorem Tab.same {D:TA} {m n:Nat} {scs:List Int} {us:List Tr} {ws:List V} {pl:Addr} {ls:List V} {T:Wg.Tb} {H H':Hp} (s:Same H H') (h:Tab D m n scs us ws pl ls T H):Tab D m n scs us ws pl ls T H':=
 ⟨s _ _ h.ob,s _ _ h.tm,h.tt.mono (Kd.of_same s),h.ul,s _ _ h.sc,h.sl,s _ _ h.li,h.ro.keep fun q _ _ xs e=>s _ _ e,s _ _ h.sd,s _ _ h.hd,h.n1,h.n2,h.n3,h.n4,h.n5,h.n6,h.n7,h.m64,h.n64⟩
theorem Tab.butT {T0:Addr} {ps:Array Value} {D:TA} {m n:Nat} {scs:List Int} {us:List Tr} {ws:List V} {pl:Addr} {ls:List V} {T:Wg.Tb} {H H':Hp} (hT:H T0=some (.tbl ps)) (b:ButT T0 H H') (h:Tab D m n scs us ws pl ls T H):Tab D m n scs us ws pl ls T H':=by
 have k:∀ {a:Addr} {o:HO},H a=some o->(∀p,o≠ .tbl p)->H' a=some o:=fun {a o} e q=>b _ _ (fun z=>by rw [z,hT] at e;exact q _ (yF e).symm) e
 have kl:∀ {a:Addr} {xs:List V},H a=some (.lst xs)->H' a=some (.lst xs):=fun e=>k e (by intro p z;cases z)
 have kd:Kd H H':=⟨fun a xs e=>k e (by intro p z;cases z),fun a xs e=>⟨xs,kl e⟩⟩
 exact ⟨k h.ob (by intro p z;cases z),kl h.tm,h.tt.mono kd,h.ul,kl h.sc,h.sl,kl h.li,h.ro.keep fun q _ _ xs e=>kl e,kl h.sd,kl h.hd,h.n1,h.n2,h.n3,h.n4,h.n5,h.n6,h.n7,h.m64,h.n64⟩
theorem ij {m i:Nat} {f:Nat->Nat} (h:i < m):(nv (Wg.ls m f))[i]?=some (.int (f i:Nat)):=by
 unfold nv;rw [yo,Wg.ls_at h];rfl
theorem c7 {m:Nat} {f:Nat->Nat}:(nv (Wg.ls m f)).length=m:=by
 unfold nv;rw [yi,Wg.ls_len]
theorem fA {n c:Nat} {f:Nat->Int} (h:c < n):((Wg.ls n f).map V.int)[c]?=some (.int (f c)):=by
 rw [yo,Wg.ls_at h];rfl
noncomputable def slk (m:Nat) (T:Wg.Tb):List Nat:=(List.range m).filter fun i=>decide (T.sd i < m)
theorem slk_mem {m:Nat} {T:Wg.Tb} {i:Nat}:i∈slk m T↔i < m/\T.sd i < m:=by
 unfold slk;rw [za,yX,decide_eq_true_iff]
section
variable {P:Program} {w:World} {K:PySem.W.Frag} {mg:Str->Option Value} {base:Heap} {T0:Addr}
def qh:Sp:=fun vs H Q _=>∃(D:TA) (m n:Nat) (scs:List Int) (us:List Tr) (ws:List V) (pl:Addr) (ls:List V) (T:Wg.Tb) (k:Int),vs= [.ref D.a, .int k]/\Tk K D.C/\Tab D m n scs us ws pl ls T H/\Q (.bl (decide (k < (m:Int)))) H
theorem xG:FnScope ["table","number"] ["table","number"] (af sIsl):= .of
theorem wz {f:Addr} {fd:FuncData} (F:Fun K "is_slack" "is_slack" sIsl f fd) (B:Blt mg):FnOk P w K mg base CX0 1 f fd ["table","number"] (qh (K:=K)):=by
 refine F.okb xG fun vs H Q E h=> ?_;refine hZq fun q_ e_=> ?_;obtain ⟨D,m,n,scs,us,ws,pl,ls,T,k,rfl,hk,hT,q⟩:=h;subst e_;refine ⟨rfl,fun cdv A outer s hr=> ?_⟩;refine ⟨_,ah (az (c5 mv (pv 1) (av ao rfl B.le PySem.boot_len (a0 (aM (pv 0) rfl) a9)) (aA _))),?_⟩;refine ⟨_,rfl,_,rfl,D.a,D.C,D.dx,_,_,rfl,hT.ob,hk.cls,hk.ns,rfl,D.psc,_,rfl, .inl (SqL.of hT.sc),k,_,rfl,rfl,?_⟩;rw [yi,hT.sl];exact q
def jC:Sp:=fun vs H Q _=>∃(D:TA) (m n:Nat) (scs:List Int) (us:List Tr) (ws:List V) (pl:Addr) (ls:List V) (T:Wg.Tb),vs= [.ref D.a]/\Tk K D.C/\Tab D m n scs us ws pl ls T H/\∀l H',H l=none->Same H H'->H' l=some (.lst (nv (slk m T)))->Q (.ref l) H'
theorem xC:FnScope ["table"] ["table"] (af sSll):= .of
theorem wm {f fI:Addr} {fd dI:FuncData} (F:Fun K "slack_lines" "slack_lines" sSll f fd) (B:Blt mg)
 (gI:FnOk P w K mg base CX0 1 fI dI ["table","number"] (qh (K:=K))) (kI:PySem.W.keepIn K (.ref fI)=true) (bI:Binds K dI ["table","number"] []) (mI:mg "is_slack"=some (.ref fI)):
 FnOk P w K mg base CX0 2 f fd ["table"] (jC (K:=K)):=by
 refine F.okb xC fun vs H Q E h=> ?_;refine hZq fun q_ e_=> ?_;obtain ⟨D,m,n,scs,us,ws,pl,ls,T,rfl,hk,hT,q⟩:=h;subst e_;refine ⟨rfl,fun cdv A outer s hr=> ?_⟩;have nd3:(["at","side","table"]:List Str).Nodup:=by decide +kernel
 refine ⟨_,ah (az (aV (NC:= ["at","side","table"]) (mp:= [none,none,some 0]) (g:=gTup K 2 (bf (aL 0) (bf (aL 1) gNil))) rfl (ud rfl B.en (a0 (aM (pv 0) rfl) a9)) (fun _ _ _ _ _=>be (n:=2) rfl (aj (pgA 0 nd3) (aj (pgA 1 nd3) aP)))
  (fun _ _ _ _ _=>db (dZ (ai gI hr rfl mI kI bI .nil ax (a0 (pv 2) (a0 (pv 1) a9))) fun _=>rfl)) (fun _ _ _ _ _=>pv 0))),?_⟩
 have hL20:(20000:Nat)<=sizeLine:=by decide +kernel
 have m64:=hT.m64;refine lK (a:=D.pss) (xs:=nv (Wg.ls m T.sd)) (fun Q q=>⟨_,rfl,D.a,D.C,D.dx,_,_,rfl,hT.ob,hk.cls,hk.nd,rfl,q⟩) (SqL.of hT.sd) fun L nL=> ?_;refine ⟨fun j acc H'=>Same H H'/\H' L=some (.lst acc)/\acc=nv ((List.range j).filter fun i=>decide (T.sd i < m)),⟨aa nL,a8,rfl⟩,fun j acc H' p=>SqL.of (p.1 _ _ hT.sd),?_,?_⟩
 . rintro i Tt x acc H' hi _ ⟨s2,hL,rfl⟩ ex nT;rw [c7] at hi;rw [ij hi] at ex;cases ex;have sT:=aa (o:= .tup [.int i, .int (T.sd i:Nat)]) nT;refine ⟨Tt,_,rfl,SqT.of a8,rfl,_,_,rfl,_,_,rfl,rfl,ext2,?_⟩;refine ⟨_,rfl,_,rfl,D,m,n,scs,us,ws,pl,ls,T,_,rfl,hk,hT.same (s2.trans sT),_,rfl,?_⟩
   have al:(nv ((List.range i).filter fun i=>decide (T.sd i < m))).length<=i:=by
    unfold nv;rw [yi];exact yC (yW _ _) (by rw [z7];exact yp _)
   by_cases z:T.sd i < m
   . rw [decide_eq_true (show ((T.sd i:Nat):Int) < (m:Int) by omega)]
     refine iteT ?_;refine ⟨_,rfl,CompN.mk (by rw [c7];exact hi) (by omega) (sT _ _ hL) ⟨aF nL (s2.trans sT),a8,?_⟩⟩
     rw [z9,yZ];simp [nv,z]
   . rw [decide_eq_false (show¬((T.sd i:Nat):Int) < (m:Int) by omega)]
     refine iteF ?_;refine CompS.mk (by rw [c7];exact hi) ⟨s2.trans sT,sT _ _ hL,?_⟩
     rw [z9,yZ];simp [nv,z]
 . rintro acc H2 ⟨s2,hL,rfl⟩;rw [c7] at hL;exact q L H2 nL s2 hL
noncomputable def tdF (xs ys:List Int) (q:Nat) (b0 B p r:Int):List Int:=
 if Wg.sg p*r=0 then xs.map fun x=>x*B / b0 else (List.zipWith (fun x y=>(x*B - Wg.sg p*r*y) / b0) xs ys).set q (Wg.sg p*r)
def pP:Sp:=fun vs H Q _=>∃(a C dx qo ql:Addr) (fs:List (Str×V)) (q:Nat) (b0 B p r:Int) (xs ys:List Int),vs= [.ref a, .ref qo, .ref ql, .int (q:Int), .int b0]/\Tk K C/\H a=some (.ins C dx fs)/\fs.lookup (Str.ofString "bottom")=some (.int B)/\
 H qo=some (.lst (xs.map V.int))/\H ql=some (.lst (ys.map V.int))/\xs.length=ys.length/\xs.length<=1000/\ys[q]?=some p/\xs[q]?=some r/\0 < b0/\Big b0/\Big B/\(∀x∈xs,Big x)/\(∀y∈ys,Big y)/\
 ∀l H',H l=none->Same H H'->H' l=some (.lst ((tdF xs ys q b0 B p r).map V.int))->Q (.ref l) H'
theorem scTud:FnScope ["table","other","line","column","bottom","many","told"] ["table","other","line","column","bottom"] (af sTud):= .of
theorem wa {f:Addr} {fd:FuncData} (F:Fun K "turned" "turned" sTud f fd) (B:Blt mg):FnOk P w K mg base CX0 1 f fd ["table","other","line","column","bottom"] (pP (K:=K)):=by
 refine F.okb scTud fun vs H Q E h=> ?_;refine hZq fun q_ e_=> ?_;obtain ⟨a,C,dx,qo,ql,fs,q,b0,B',p,r,xs,ys,rfl,hC,ha,hfs,ho,hl,hxy,hx1,hp,hr',b00,bb0,bB,bx,by_,k⟩:=h;subst e_;refine ⟨rfl,fun cdv A outer s hr=> ?_⟩;have nd3:(["number","table","bottom"]:List Str).Nodup:=by decide +kernel
 have nd5:(["number","beside","table","bottom","many"]:List Str).Nodup:=by decide +kernel
 refine ⟨_,ac (psR 5 scTud.nd (dy (aG eN (am aq (pv 2) (pv 3) fun _ _=>rfl) ad (aA _)) (am aq (pv 1) (pv 3) fun _ _=>rfl) (cy bA (am aq (pv 1) (pv 3) fun _ _=>rfl))))
  (ac (cj (aG cD (pv 5) ad (aA _))
   (ah (az (aV (NC:= ["number","table","bottom"]) (mp:= [none,some 0,some 4]) rfl (aZ (pv 1)) (fun _ _ _ _ _=>pgA 0 nd3) (fun _ _ _ _ _=>aS)
    (fun _ _ _ _ _=>ak cU (ak aO (pv 0) (ci (K:=K) rfl (pv 1) rfl)) (pv 2))))) aU)
  (ac (eM (i:=6) (NC:= ["number","beside","table","bottom","many"]) (mp:= [none,none,some 0,some 4,some 5]) (g:=gTup K 2 (bf (aL 0) (bf (aL 1) gNil))) rfl scTud.nd rfl rfl rfl (iY (k:= .lst) rfl B.zi (a0 (pv 1) (a0 (pv 2) a9)))
   (fun _ _ _ _ _=>be (n:=2) rfl (aj (pgA 0 nd5) (aj (pgA 1 nd5) aP))) (fun _ _ _ _ _=>aS)
   (fun _ _ _ _ _=>ak cU (ak fg (ak aO (pv 0) (ci (K:=K) rfl (pv 2) rfl)) (ak aO (pv 4) (pv 1))) (pv 3)))
  (ac (e5 (pv 5) (fe (pv 6) (pv 3) cS))
  (ah (az (pv 6)))))),?_⟩
 have hL20:(20000:Nat)<=sizeLine:=by decide +kernel
 have ep:atI (ys.map V.int) (q:Int)=some (.int p):=aw (by rw [yo,hp];rfl)
 have er:atI (xs.map V.int) (q:Int)=some (.int r):=aw (by rw [yo,hr'];rfl)
 have bR:Big r:=bx r (yq hr');have ql':q < xs.length:=(yt.mp hr').1;refine bX (fun σ' H'=>H=H'/\∃mm:Int,mm=Wg.sg p*r/\Big mm/\σ'= [some (.ref a),some (.ref qo),some (.ref ql),some (.int q),some (.int b0),some (.int mm),none]) ?_ fun nx hnx=> ?_
 . intro σ' H' z_;refine hZq fun q_ e_=> ?_;obtain ⟨rfl,mm,em,bm,rfl⟩:=z_;subst e_;refine ⟨_,rfl,rfl,_,rfl,?_⟩;by_cases z:mm=0
   . rw [z,decide_eq_true rfl];refine iteT ?_;refine ⟨_,rfl,qo,rfl,⟨_,SqL.of ho⟩,fun D nD=> ?_⟩;refine bU (xs:=xs.map V.int) (fun j acc H3=>Same H H3/\H3 D=some (.lst acc)/\acc=((xs.take j).map fun x=>x*B' / b0).map V.int) ⟨aa nD,a8,rfl⟩ (fun j acc H3 pp=>SqL.of (pp.1 _ _ ho)) ?_ ?_
     . intro j x acc H3 hj ex z_;refine hZq fun q_ e_=> ?_;obtain ⟨s3,hd3,rfl⟩:=z_;rw [yo] at ex;obtain ⟨y,ey,rfl⟩:=yw.mp ex;subst e_;have jl:j < xs.length:=(yt.mp ey).1;refine ⟨_,rfl,_,rfl,a,C,dx,fs,_,rfl,s3 _ _ ha,hC.cls,hC.nb,hfs,y,B',rfl,rfl,⟨bx y (yq ey),bB⟩,_,rfl,_,b0,rfl,rfl,⟨b00,bb0⟩,?_⟩;refine CompN.mk hj (by rw [yi,yi,yS];omega) hd3 ⟨aF nD s3,a8,?_⟩
       rw [ay ey];simp
     . rintro acc H3 ⟨s3,hd3,rfl⟩;rw [yi,yO] at hd3;refine k D H3 nD s3 ?_;unfold tdF;rw [if_pos (by rw [<-em];exact z)]
       exact hd3
   . have z':¬V.int mm=V.int 0:=fun e=>z (V.int.inj e);rw [decide_eq_false z'];refine iteF (gi ?_);dsimp only;refine dR ?_;refine iu (xs:=xs.map V.int) (ys:=ys.map V.int) (a:=qo) (b:=ql) (by rw [yi,yi];omega) (fun Q q=>⟨_,rfl,_,rfl,q⟩) (SqL.of ho) (SqL.of hl) fun D nD=> ?_
     refine ⟨fun j acc H3=>Same H H3/\H3 D=some (.lst acc)/\acc=((List.zipWith (fun x y=>(x*B' - Wg.sg p*r*y) / b0) xs ys).take j).map V.int,⟨aa nD,a8,rfl⟩,fun j acc H3 pp=>⟨SqL.of (pp.1 _ _ ho),SqL.of (pp.1 _ _ hl)⟩,?_,?_⟩
     . rintro j T x y acc H3 hj _ ⟨s3,hd3,rfl⟩ ex ey nT;rw [yo] at ex ey;refine hZq fun q_ e_=> ?_;obtain ⟨x',ex',rfl⟩:=yw.mp ex;obtain ⟨y',ey',rfl⟩:=yw.mp ey;subst e_;have jl:j < xs.length:=(yt.mp ex').1;have sT:=aa (o:= .tup [.int x', .int y']) nT;refine ⟨T,_,rfl,SqT.of a8,rfl,_,_,rfl,_,_,rfl,rfl,ext2,?_⟩;refine fi ?_;refine ⟨_,rfl,_,rfl,a,C,dx,fs,_,rfl,sT _ _ (s3 _ _ ha),hC.cls,hC.nb,hfs,x',B',rfl,rfl,⟨bx _ (yq ex'),bB⟩,_,rfl,_,rfl,mm,y',rfl,rfl,⟨bm,by_ _ (yq ey')⟩,_,_,rfl,rfl,_,rfl,_,b0,rfl,rfl,⟨b00,bb0⟩,?_⟩;refine CompN.mk hj (by rw [yi,yS,List.length_zipWith];omega) (sT _ _ hd3) ⟨aF nD (s3.trans sT),a8,?_⟩
       have ez:(List.zipWith (fun x y=>(x*B' - Wg.sg p*r*y) / b0) xs ys)[j]?=some ((x'*B' - Wg.sg p*r*y') / b0):=by rw [List.getElem?_zipWith,ex',ey']
       rw [ay ez,em];simp
     . rintro acc H3 ⟨s3,hd3,rfl⟩;have zl:(List.zipWith (fun x y=>(x*B' - Wg.sg p*r*y) / b0) xs ys).length=xs.length:=by rw [List.length_zipWith];omega
       rw [yi,<-zl,yO] at hd3;refine ag ?_;refine ⟨_,rfl,_,rfl,_,rfl,D,_,(q:Int),q,rfl,rfl,hd3,by rw [yi,zl];unfold ixN;rw [if_pos (by omega),if_pos (by omega)];simp,?_⟩
       refine ⟨_,rfl,?_⟩;refine k D _ nD (aF nD s3) ?_;rw [a8];unfold tdF;rw [if_neg (by rw [<-em];exact z),<-em,List.map_set]
 refine ⟨_,rfl,_,rfl,ql,_,_,_,rfl,rfl,SqL.of hl,ep,p,0,rfl,rfl,_,rfl,?_⟩;by_cases pp:0 < p
 . rw [decide_eq_true pp];refine iteT ?_;refine ⟨_,rfl,_,rfl,qo,_,_,_,rfl,rfl,SqL.of ho,er,?_⟩;exact hnx _ _ ⟨rfl,r,by unfold Wg.sg;rw [if_pos pp];omega,bR,rfl⟩
 . rw [decide_eq_false pp];refine iteF ?_;refine ⟨_,rfl,_,rfl,qo,_,_,_,rfl,rfl,SqL.of ho,er,r,rfl,?_⟩;refine hnx _ _ ⟨rfl,-r,by unfold Wg.sg;rw [if_neg pp];omega,?_,rfl⟩
   unfold Big at*;rw [zO];exact bR
theorem sm {D:TA} {pl:Addr} {b c:Int}:putF (Str.ofString "bottom") (.int c) (flds D pl b)=flds D pl c:=by
 unfold flds putF;rw [if_neg (by decide +kernel)]
 unfold putF;rw [if_neg (by decide +kernel)]
 unfold putF;rw [if_neg (by decide +kernel)]
 unfold putF;rw [if_pos rfl]
theorem sk {D:TA} {pl ql:Addr} {b:Int}:putF (Str.ofString "lines") (.ref ql) (flds D pl b)=flds D ql b:=by
 unfold flds putF;rw [if_neg (by decide +kernel)]
 unfold putF;rw [if_neg (by decide +kernel)]
 unfold putF;rw [if_pos rfl]
theorem tN {K:PySem.W.Frag} {ta tv:TE} {f:Str} {u:TS} {Z:Ends} {σ:L2.St} {H:Hp} (h:tv σ H fun y H1=>ta σ H1 fun x H2=>∃a C dx fs,x= .ref a/\H2 a=some (.ins C dx fs)/\Cls K C/\NoAttr K C f/\fs.length < 1000/\(u Z) σ (upd H2 a (.ins C dx (putF f y fs)))):tSeq (sFld K ta tv f) u Z σ H:=h
theorem pj {te:TE} {g:TG} {u:TS} {Z:Ends} {σ:L2.St} {H:Hp} (h:te σ H fun x H1=>g x σ H1 (u Z)):tSeq (tAsg te g) u Z σ H:=h
def ButX (D:TA) (H H':Hp):Prop:=∀x o,x≠D.a->x≠D.pss->x≠D.ph->H x=some o->H' x=some o
theorem ButX.of_same {D:TA} {H H':Hp} (s:Same H H'):ButX D H H':=fun x o _ _ _ e=>s _ _ e
theorem ButX.trans {D:TA} {H H1 H2:Hp} (a:ButX D H H1) (b:ButX D H1 H2):ButX D H H2:=fun x o h1 h2 h3 e=>b x o h1 h2 h3 (a x o h1 h2 h3 e)
theorem kdX {D:TA} {m n:Nat} {scs:List Int} {us:List Tr} {ws:List V} {pl:Addr} {ls:List V} {T:Wg.Tb} {H H':Hp} (h:Tab D m n scs us ws pl ls T H) (b:ButX D H H') (h':∃xs,H' D.pss=some (.lst xs)) (h'':∃xs,H' D.ph=some (.lst xs)):Kd H H':=by
 have ha:=h.ob;have h1:=h.sd;have h2:=h.hd;refine ⟨fun x xs e=>b x _ (fun z=>by rw [z,ha] at e;cases e) (fun z=>by rw [z,h1] at e;cases e) (fun z=>by rw [z,h2] at e;cases e) e,fun x xs e=> ?_⟩
 by_cases e1:x=D.pss
 . rw [e1];exact h'
 . by_cases e2:x=D.ph
   . rw [e2];exact h''
   . exact ⟨xs,b x _ (fun z=>by rw [z,ha] at e;cases e) e1 e2 e⟩
def lX:Sp:=fun vs H Q _=>∃(D:TA) (m n:Nat) (scs:List Int) (us:List Tr) (ws:List V) (pl:Addr) (ls:List V) (T:Wg.Tb) (r q:Nat),vs= [.ref D.a, .int (r:Int), .int (q:Int)]/\Tk K D.C/\Tab D m n scs us ws pl ls T H/\r < m/\q < n/\T.ln r q≠0/\0 < T.bot/\Big T.bot/\(∀i c,i < m->c < n+2->Big (T.ln i c))/\
 ∀pl' ls' H',ButX D H H'->Tab D m n scs us ws pl' ls' (Wg.piv T r q) H'->Q .non H'
theorem scTur:FnScope ["table","at","column","line","sign","bottom"] ["table","at","column"] (af sTur):= .of
theorem w9 {f fT:Addr} {fd dT:FuncData} (F:Fun K "turn" "turn" sTur f fd) (B:Blt mg)
 (GT:FnOk P w K mg base CX0 1 fT dT ["table","other","line","column","bottom"] (pP (K:=K))) (kT:PySem.W.keepIn K (.ref fT)=true) (bT:Binds K dT ["table","other","line","column","bottom"] []) (mT:mg "turned"=some (.ref fT)):
 FnOk P w K mg base CX0 2 f fd ["table","at","column"] (lX (K:=K)):=by
 refine F.okb scTur fun vs H Q E h=> ?_;refine hZq fun q_ e_=> ?_;obtain ⟨D,m,n,scs,us,ws,pl,ls,T,r,q,rfl,hk,hT,hrm,hqn,hp,b0,bb,bl,k⟩:=h;subst e_;refine ⟨rfl,fun cdv A outer s hr=> ?_⟩;have nd5:(["other","table","column","line","bottom"]:List Str).Nodup:=by decide +kernel
 have nd2:(["number","sign"]:List Str).Nodup:=by decide +kernel
 refine ⟨_,ac (psR 3 scTur.nd (am aq (aM (pv 0) rfl) (pv 1) fun _ _=>rfl))
  (ac (psR 4 scTur.nd (dy (aG eN (am aq (pv 3) (pv 2) fun _ _=>rfl) ad (aA _)) ad (cy bA ad)))
  (ac (psR 5 scTur.nd (aM (pv 0) rfl))
  (ac (du (pv 0) (av km rfl B.ab ko (a0 (am aq (pv 3) (pv 2) fun _ _=>rfl) a9)) rfl)
  (ac (du (pv 0) (aV (NC:= ["other","table","column","line","bottom"]) (mp:= [none,some 0,some 2,some 3,some 5]) rfl (aZ (aM (pv 0) rfl)) (fun _ _ _ _ _=>pgA 0 nd5) (fun _ _ _ _ _=>aS)
   (fun _ _ _ _ _=>ai GT hr rfl mT kT bT .nil ax (a0 (pv 1) (a0 (pv 0) (a0 (pv 3) (a0 (pv 2) (a0 (pv 4) a9))))))) rfl)
  (ac (e5 (aV (NC:= ["number","sign"]) (mp:= [none,some 4]) rfl (aZ (pv 3)) (fun _ _ _ _ _=>pgA 0 nd2) (fun _ _ _ _ _=>aS)
   (fun _ _ _ _ _=>ak aO (cy bA (pv 1)) (pv 0))) (fe (aM (pv 0) rfl) (pv 1) cS))
  (ac (e5 (ak aO (pv 4) (pv 5)) (fe (am aq (aM (pv 0) rfl) (pv 1) fun _ _=>rfl) (pv 2) cS))
  (ah (e5 (aK (a0 (am aq (aM (pv 0) rfl) (pv 2) fun _ _=>rfl) (a0 (am aq (aM (pv 0) rfl) (pv 1) fun _ _=>rfl) a9))) (be (n:=2) rfl (aj (fe (aM (pv 0) rfl) (pv 1) cS) (aj (fe (aM (pv 0) rfl) (pv 2) cS) aP))))))))))),?_⟩
 have hL20:(20000:Nat)<=sizeLine:=by decide +kernel
 have m64:=hT.m64;have n64:=hT.n64;refine hZq fun q_ e_=> ?_;obtain ⟨ll,lr⟩:=hT.ro;obtain ⟨ql,eql,hql,nq1,nq2⟩:=lr r hrm;subst e_;have eqp:atI ((Wg.ls (n+2) (T.ln r)).map V.int) (q:Int)=some (.int (T.ln r q)):=aw (fA (by omega))
 have fb:∀b pl,(flds D pl b).lookup (Str.ofString "bottom")=some (.int b):=fun b pl=>rfl;have fl:∀b pl,(flds D pl b).lookup (Str.ofString "lines")=some (.ref pl):=fun b pl=>rfl;have fs:∀b pl,(flds D pl b).lookup (Str.ofString "sides")=some (.ref D.pss):=fun b pl=>rfl;have fh:∀b pl,(flds D pl b).lookup (Str.ofString "heads")=some (.ref D.ph):=fun b pl=>rfl;have sgb:Big (Wg.sg (T.ln r q)):=by unfold Wg.sg Big;split<;>decide +kernel
 have bpq:=bl r q hrm (by omega)
 have eab:(if T.ln r q < 0 then -T.ln r q else T.ln r q)=((T.ln r q).natAbs:Int):=by split<;>omega
 have bB:Big ((T.ln r q).natAbs:Int):=by unfold Big at *;rw [Int.natAbs_natCast];exact bpq
 have nsb:Big (-Wg.sg (T.ln r q)):=by unfold Big at *;rw [zO];exact sgb
 refine ⟨_,rfl,D.a,D.C,D.dx,_,_,rfl,hT.ob,hk.cls,hk.nl,fl _ _,_,rfl,pl,_,(r:Int),_,rfl,rfl,SqL.of hT.li,aw eql,?_⟩;refine ag ?_;dsimp only;refine bX (fun σ' H'=>H=H'/\σ'= [some (.ref D.a),some (.int (r:Int)),some (.int (q:Int)),some (.ref ql),some (.int (Wg.sg (T.ln r q))),none]) ?_ fun nx hnx=> ?_
 . rintro σ' H' ⟨rfl,rfl⟩;refine ⟨_,rfl,D.a,D.C,D.dx,_,_,rfl,hT.ob,hk.cls,hk.nb,fb _ _,_,rfl,_,rfl,ql,_,_,_,rfl,rfl,SqL.of hql,eqp,_,rfl,_,rfl,D.a,D.C,D.dx,_,rfl,hT.ob,hk.cls,hk.nb,(by show 6 < 1000;decide),?_⟩
   rw [eab,sm];obtain ⟨B',eB⟩:∃B':Int,B'=((T.ln r q).natAbs:Int):=⟨_,rfl⟩;rw [<-eB] at bB ⊢;obtain ⟨H1,eH1⟩:∃H1,H1=upd H D.a (.ins D.C D.dx (flds D pl B')):=⟨_,rfl⟩;rw [<-eH1];have h1a:H1 D.a=some (.ins D.C D.dx (flds D pl B')):=by rw [eH1];exact a8
   have h1l:∀ {x:Addr} {xs:List V},H x=some (.lst xs)->H1 x=some (.lst xs):=fun {x xs} e=>by
    rw [eH1,ae (fun z=>by rw [z,hT.ob] at e;cases e)]
    exact e
   try dsimp only
   refine tN ?_;refine bV rfl ?_;refine ⟨_,rfl,D.a,D.C,D.dx,_,_,rfl,h1a,hk.cls,hk.nl,fl _ _,pl,rfl,⟨_,SqL.of (h1l hT.li)⟩,fun L nL=> ?_⟩;refine bU (xs:=ls) (fun j acc H'=>Same H1 H'/\H' L=some (.lst acc)/\acc.length=j/\∀i,i < j->∃z,acc[i]?=some (.ref z)/\H' z=some (.lst ((tdF (Wg.ls (n+2) (T.ln i)) (Wg.ls (n+2) (T.ln r)) q T.bot B' (T.ln r q) (T.ln i q)).map V.int))/\H1 z=none/\z≠L) ⟨aa nL,a8,rfl,fun i hi=>by omega⟩ (fun j acc H' p=>SqL.of (p.1 _ _ (h1l hT.li))) ?_ ?_
   . intro j x acc H' hj ex z_;refine hZq fun q_ e_=> ?_;obtain ⟨s2,hL,al,hz⟩:=z_;rw [ll] at hj;obtain ⟨qj,eqj,hqj,_,_⟩:=lr j hj;subst e_;rw [eqj] at ex;cases ex;refine ⟨_,rfl,_,rfl,_,rfl,_,rfl,_,rfl,D.a,D.C,D.dx,qj,ql,_,q,T.bot,B',T.ln r q,T.ln j q,Wg.ls (n+2) (T.ln j),Wg.ls (n+2) (T.ln r),rfl,hk,s2 _ _ h1a,fb _ _,s2 _ _ (h1l hqj),s2 _ _ (h1l hql),by rw [Wg.ls_len,Wg.ls_len],by rw [Wg.ls_len];omega,Wg.ls_at (by omega),Wg.ls_at (by omega),b0,bb,bB,?_,?_,fun l H3 nl s3 e3=> ?_⟩
     . intro x mx;obtain ⟨c,hc,rfl⟩:=yR.mp mx;exact bl j c hj (yX.mp hc)
     . intro x mx;obtain ⟨c,hc,rfl⟩:=yR.mp mx;exact bl r c hrm (yX.mp hc)
     . refine CompN.mk (by rw [ll];exact hj) (by omega) (s3 _ _ hL) ⟨aF nL (s2.trans s3),a8,by rw [yI,al];rfl,fun i hi=> ?_⟩
       have nlL:l≠L:=fun z=>by rw [z,hL] at nl;cases nl
       have nl1:H1 l=none:=s2.free nl;rcases Nat.lt_or_ge i j with h|h
       . refine hZq fun q_ e_=> ?_;obtain ⟨z,a1,a2,a3,a4⟩:=hz i h;subst e_;exact ⟨z,by rw [List.getElem?_append_left (by omega)];exact a1,by rw [ae a4];exact s3 _ _ a2,a3,a4⟩
       . have e:i=j:=by omega
         subst e;exact ⟨l,by rw [List.getElem?_append_right (by omega),al];simp,by rw [ae nlL];exact e3,nl1,nlL⟩
   rintro acc H2 ⟨s2,hL2,al,hz⟩;rw [ll] at al hz;have h2a:=s2 _ _ h1a;refine ⟨_,rfl,D.a,D.C,D.dx,_,rfl,h2a,hk.cls,hk.nl,(by show 6 < 1000;decide),?_⟩
   rw [sk];obtain ⟨H3,eH3⟩:∃H3,H3=upd H2 D.a (.ins D.C D.dx (flds D L B')):=⟨_,rfl⟩;rw [<-eH3];have h3a:H3 D.a=some (.ins D.C D.dx (flds D L B')):=by rw [eH3];exact a8
   have h3l:∀ {x:Addr} {xs:List V},H2 x=some (.lst xs)->H3 x=some (.lst xs):=fun {x xs} e=>by
    rw [eH3,ae (fun z=>by rw [z,h2a] at e;cases e)]
    exact e
   have h3ql:=h3l (s2 _ _ (h1l hql))
   try dsimp only
   refine pj ?_;refine bV rfl ?_;refine ⟨_,rfl,ql,rfl,⟨_,SqL.of h3ql⟩,fun M nM=> ?_⟩;refine bU (xs:=(Wg.ls (n+2) (T.ln r)).map V.int) (fun j acc H'=>Same H3 H'/\H' M=some (.lst acc)/\acc=(((Wg.ls (n+2) (T.ln r)).take j).map fun x=> -Wg.sg (T.ln r q)*x).map V.int) ⟨aa nM,a8,rfl⟩ (fun j acc H' p=>SqL.of (p.1 _ _ h3ql)) ?_ ?_
   . intro j x acc' H' hj ex z_;refine hZq fun q_ e_=> ?_;obtain ⟨s4,hM,rfl⟩:=z_;rw [yo] at ex;obtain ⟨y,ey,rfl⟩:=yw.mp ex;subst e_;have jl:j < (Wg.ls (n+2) (T.ln r)).length:=(yt.mp ey).1;have jl':=jl;rw [Wg.ls_len] at jl';rw [Wg.ls_at jl'] at ey;cases ey;refine ⟨_,rfl,_,rfl,_,rfl,_,_,rfl,rfl,⟨nsb,bl r j hrm jl'⟩,?_⟩;refine CompN.mk hj (by rw [yi,yi,yS,Wg.ls_len];omega) hM ⟨aF nM s4,a8,?_⟩
     rw [ay (Wg.ls_at jl')];simp
   rintro acc' H4 ⟨s4,hM,rfl⟩;rw [yi,yO] at hM;have h4L:=s4 _ _ (h3l hL2);have h4a:=s4 _ _ h3a;have ixn:∀ {N j:Nat},j < N->ixN N (j:Int)=some j:=fun {N j} h=>by unfold ixN;rw [if_pos (by omega),if_pos (by omega)];simp
   have nLM:L≠M:=fun z=>by rw [<-z,h3l hL2] at nM;cases nM
   have naL:D.a≠L:=fun z=>by rw [<-z,h1a] at nL;cases nL
   have naM:D.a≠M:=fun z=>by rw [<-z,h3a] at nM;cases nM
   refine ⟨_,rfl,D.a,D.C,D.dx,_,_,rfl,h4a,hk.cls,hk.nl,fl _ _,_,rfl,L,_,(r:Int),r,rfl,rfl,h4L,ixn (by omega),?_⟩
   have h5a:(upd H4 L (.lst (acc.set r (.ref M)))) D.a=some (.ins D.C D.dx (flds D L B')):=by rw [ae naL];exact h4a
   have h5M:(upd H4 L (.lst (acc.set r (.ref M)))) M=some (.lst (((Wg.ls (n+2) (T.ln r)).map fun x=> -Wg.sg (T.ln r q)*x).map V.int)):=by rw [ae nLM.symm];exact hM
   refine ⟨_,rfl,_,rfl,_,_,rfl,rfl,⟨sgb,bb⟩,_,rfl,D.a,D.C,D.dx,_,_,rfl,h5a,hk.cls,hk.nl,fl _ _,_,rfl,L,_,(r:Int),_,rfl,rfl,SqL.of a8,aw (v:= .ref M) (by rw [List.getElem?_set_self (by omega)]),_,rfl,M,_,(q:Int),q,rfl,rfl,h5M,ixn (by rw [yi,yi,Wg.ls_len];omega),?_⟩
   rw [<-List.map_set,Wg.turnedR];obtain ⟨H6,eH6⟩:∃H6,H6=upd (upd H4 L (.lst (acc.set r (.ref M)))) M (.lst ((Wg.ls (n+2) ((Wg.piv T r q).ln r)).map V.int)):=⟨_,rfl⟩;rw [<-eH6]
   have h6:∀ {x:Addr} {o:HO},x≠L->x≠M->H4 x=some o->H6 x=some o:=fun {x o} a b e=>by
    rw [eH6,ae b,ae a];exact e
   have h6M:H6 M=some (.lst ((Wg.ls (n+2) ((Wg.piv T r q).ln r)).map V.int)):=by rw [eH6];exact a8
   have h6L:H6 L=some (.lst (acc.set r (.ref M))):=by rw [eH6,ae nLM];exact a8
   have h6a:=h6 naL naM h4a
   have old:∀ {x:Addr} {o:HO},x≠D.a->H x=some o->H6 x=some o:=fun {x o} na e=>by
    have e1:H1 x=some o:=by rw [eH1,ae na];exact e
    have e3:H3 x=some o:=by rw [eH3,ae na];exact s2 _ _ e1
    exact h6 (fun z=>by rw [<-z,e1] at nL;cases nL) (fun z=>by rw [<-z,e3] at nM;cases nM) (s4 _ _ e3)
   have nap:∀ {x:Addr} {xs:List V},H x=some (.lst xs)->x≠D.a:=fun {x xs} e z=>by rw [z,hT.ob] at e;cases e
   have h6sd:=old (nap hT.sd) hT.sd;have h6hd:=old (nap hT.hd) hT.hd;refine ⟨_,rfl,D.a,D.C,D.dx,_,_,rfl,h6a,hk.cls,hk.nh,fh _ _,_,rfl,D.ph,_,(q:Int),_,rfl,rfl,SqL.of h6hd,aw (ij hqn),_,rfl,D.a,D.C,D.dx,_,_,rfl,h6a,hk.cls,hk.nd,fs _ _,_,rfl,D.pss,_,(r:Int),_,rfl,rfl,SqL.of h6sd,aw (ij hrm),two,fun t nt=> ?_⟩;have sT:=aa (o:= .tup [.int (T.hd q:Nat), .int (T.sd r:Nat)]) nt;have h7a:(upd (upd H6 t (.tup [.int (T.hd q:Nat), .int (T.sd r:Nat)])) D.pss (.lst ((nv (Wg.ls m T.sd)).set r (.int (T.hd q:Nat))))) D.a=some (.ins D.C D.dx (flds D L B')):=by rw [ae (nap hT.sd).symm];exact sT _ _ h6a
   have h7h:(upd (upd H6 t (.tup [.int (T.hd q:Nat), .int (T.sd r:Nat)])) D.pss (.lst ((nv (Wg.ls m T.sd)).set r (.int (T.hd q:Nat))))) D.ph=some (.lst (nv (Wg.ls n T.hd))):=by rw [ae hT.n3.symm];exact sT _ _ h6hd
   refine ⟨t,_,rfl,SqT.of a8,rfl,_,_,rfl,_,rfl,D.a,D.C,D.dx,_,_,rfl,sT _ _ h6a,hk.cls,hk.nd,fs _ _,_,rfl,D.pss,_,(r:Int),r,rfl,rfl,sT _ _ h6sd,ixn (by rw [c7];exact hrm),_,_,rfl,_,rfl,D.a,D.C,D.dx,_,_,rfl,h7a,hk.cls,hk.nh,fh _ _,_,rfl,D.ph,_,(q:Int),q,rfl,rfl,h7h,ixn (by rw [c7];exact hqn),rfl,?_⟩
   have e1:(nv (Wg.ls m T.sd)).set r (.int (T.hd q:Nat))=nv (Wg.ls m (Wg.piv T r q).sd):=by
    rw [<-Wg.piv_sides];unfold nv;rw [List.map_set]
   have e2:(nv (Wg.ls n T.hd)).set q (.int (T.sd r:Nat))=nv (Wg.ls n (Wg.piv T r q).hd):=by
    rw [<-Wg.piv_heads];unfold nv;rw [List.map_set]
   rw [e1,e2]
   have fin:∀ {x:Addr} {o:HO},x≠D.pss->x≠D.ph->H6 x=some o->(upd (upd (upd H6 t (.tup [.int (T.hd q:Nat), .int (T.sd r:Nat)])) D.pss (.lst (nv (Wg.ls m (Wg.piv T r q).sd)))) D.ph (.lst (nv (Wg.ls n (Wg.piv T r q).hd)))) x=some o:=fun {x o} a b e=>by
    rw [ae b,ae a];exact sT _ _ e
   have bx:ButX D H (upd (upd (upd H6 t (.tup [.int (T.hd q:Nat), .int (T.sd r:Nat)])) D.pss (.lst (nv (Wg.ls m (Wg.piv T r q).sd)))) D.ph (.lst (nv (Wg.ls n (Wg.piv T r q).hd)))):=fun x o na ns nh e=>fin ns nh (old na e);have nLs:L≠D.pss:=fun z=>by rw [z,h1l hT.sd] at nL;cases nL
   have nLh:L≠D.ph:=fun z=>by rw [z,h1l hT.hd] at nL;cases nL
   have nMs:M≠D.pss:=fun z=>by rw [z,h3l (s2 _ _ (h1l hT.sd))] at nM;cases nM
   have nMh:M≠D.ph:=fun z=>by rw [z,h3l (s2 _ _ (h1l hT.hd))] at nM;cases nM
   have sdf:(upd (upd (upd H6 t (.tup [.int (T.hd q:Nat), .int (T.sd r:Nat)])) D.pss (.lst (nv (Wg.ls m (Wg.piv T r q).sd)))) D.ph (.lst (nv (Wg.ls n (Wg.piv T r q).hd)))) D.pss=some (.lst (nv (Wg.ls m (Wg.piv T r q).sd))):=by rw [ae hT.n3];exact a8
   refine k L (acc.set r (.ref M)) _ bx ⟨?_,bx _ _ (nap hT.tm) hT.n1.symm hT.n5.symm hT.tm,hT.tt.mono (kdX hT bx ⟨_,sdf⟩ ⟨_,a8⟩),hT.ul,bx _ _ (nap hT.sc) hT.n2.symm hT.n6.symm hT.sc,hT.sl,fin nLs nLh h6L,⟨by rw [List.length_set];exact al,fun i hi=> ?_⟩,sdf,a8,hT.n1,hT.n2,hT.n3,nLs.symm,hT.n5,hT.n6,nLh.symm,m64,n64⟩
   . have:=fin (nap hT.sd).symm (nap hT.hd).symm h6a;rw [this,eB];rfl
   . by_cases e:i=r
     . subst e;exact ⟨M,by rw [List.getElem?_set_self (by omega)],fin nMs nMh h6M,nMs,nMh⟩
     . refine hZq fun q_ e_=> ?_;obtain ⟨z,a1,a2,a3,a4⟩:=hz i hi;subst e_;have z3:=h3l a2;have nzM:z≠M:=fun y=>by rw [<-y,z3] at nM;cases nM
       have nzs:z≠D.pss:=fun y=>by rw [y,h1l hT.sd] at a3;cases a3
       have nzh:z≠D.ph:=fun y=>by rw [y,h1l hT.hd] at a3;cases a3
       refine ⟨z,by rw [List.getElem?_set_ne (fun y=>e y.symm)];exact a1,?_,nzs,nzh⟩
       have:=fin nzs nzh (h6 a4 nzM (s4 _ _ z3));rw [this];congr 3;unfold tdF;rw [eB];split
       . rename_i y;exact Wg.turned0 e y
       . exact Wg.turned1 e
 . refine ⟨_,rfl,_,rfl,ql,_,_,_,rfl,rfl,SqL.of hql,eqp,_,0,rfl,rfl,_,rfl,?_⟩;by_cases pp:0 < T.ln r q
   . rw [decide_eq_true pp];refine iteT ?_;refine hnx _ _ ⟨rfl,?_⟩;unfold Wg.sg;rw [if_pos pp];rfl
   . rw [decide_eq_false pp];refine iteF ?_;refine ⟨1,rfl,hnx _ _ ⟨rfl,?_⟩⟩;unfold Wg.sg;rw [if_neg pp];rfl
end
end K45
namespace L2
open PySem PySem.Spec PyProof.Rows
section
variable {X:Cx}
noncomputable def RgV (r:Addr) (n:Nat):HO:= .ext fun h=>∃t u v,IsRange h r 0 n 1 t u v
theorem xK {P:Program} {w:World} {H:Hp} {h:Heap} {r:Addr} {n:Nat} (x:∃t u v,IsRange h r 0 n 1 t u v):ObjOk P w H h r (RgV r n):=by
 obtain ⟨t,u,v,e⟩:=x;exact ⟨⟨t,u,v,e⟩,⟨_,e⟩,fun _ _ ⟨t',u',v',y⟩ k=>⟨t',u',v',k _ y⟩⟩
theorem kj:ck X (.type "range") (fun xs H Q=>∃n:Nat,xs= [.int n]/\∀r,H r=none->Q (.ref r) (upd H r (RgV r n))):=by
 intro pins s σ H xs us Q I r h;obtain ⟨n,rfl,q⟩:=h;obtain ⟨u,rfl,t,rfl⟩:=cM r;refine call_range_1 ?_;exact ⟨.ref _,_,I.laid (t':=s.toks+1+1) (fun b ob e=>Heap.get?_push_of_some _ e) (yp _) (xK ⟨_,_,_,Heap.get?_push_size _ rfl⟩),rfl,q _ (I.hok.fresh (yp _))⟩
theorem lP (hc:X.calm=true):ck X (.type "list") (fun xs H Q=>∃(r:Addr) (n:Nat),xs= [.ref r]/\H r=some (RgV r n)/\n<=1000/\∀l,H l=none->Q (.ref l) (upd H l (.lst ((List.range n).map fun (i:Nat)=>V.int i)))):=by
 intro pins s σ H xs us Q I r h;obtain ⟨r0,n,rfl,hr,hn,q⟩:=h;obtain ⟨u,rfl,ru⟩:=cM r;cases ru;obtain ⟨⟨t,u,v,hR⟩,_⟩:=(show ObjOk X.prog X.w H s.heap r0 (RgV r0 n) from I.hok r0 _ hr);refine call_list_range (n:=n) (I.ok.hd hc) hR (small_one (by omega) (by omega) (by omega) (by omega)) (by rw [rangeSize_one];split<;>omega) (by omega) fun h' tk acc' c' hk hD hacc=> ?_
 have rr:Vals ((List.range n).map fun (i:Nat)=>V.int i) acc'.toList:=by
  have key:∀(ys:List Value) (k:Nat),(∀j x,ys[j]?=some x->∃t,x=Value.int ((k+j:Nat):Int) t)->Vals ((List.range' k ys.length).map fun (i:Nat)=>V.int i) ys:=by
   intro ys
   induction ys with
   |nil=>intro k _;exact .nil
   |cons y ys ih=>
    intro k hk;rw [yH,List.range'_succ,yG];obtain ⟨t,e⟩:=hk 0 y rfl;refine .cons ⟨t,by rw [e];rfl⟩ (ih (k+1) fun j x ex=> ?_)
    obtain ⟨t,e⟩:=hk (j+1) x ex;exact ⟨t,by rw [e];congr 1;omega⟩
  have:=key acc'.toList 0 fun j x ex=>by
   obtain ⟨t,e⟩:=hacc.2 j x (by rw [<-yQ];exact ex)
   exact ⟨t,by rw [e];congr 1;omega⟩
  rw [yP,hacc.1] at this;rw [List.range_eq_range'];exact this
 have hL:(1000:Nat)<=sizeLine:=by decide +kernel
 refine ⟨.ref _,_,I.laid (t':=tk) (o:= .lst ((List.range n).map fun (i:Nat)=>V.int i)) hk (yp _) ⟨by rw [yi,z7];omega,acc'.toList,c',rr,by rw [Array.toArray_toList];exact hD⟩,rfl,q _ (I.hok.fresh (yp _))⟩
open PySem PySem.Spec PyProof.Rows PySem.W
def u8:V->List V->Hp->VK->Prop:=fun x vs H Q=>∃(l:Addr) (ns:List Int) (k:Int) (j:Nat),x= .ref l/\vs= [.int k]/\H l=some (.lst (ns.map V.int))/\ns[j]?=some k/\(∀i,i < j->ns[i]?≠some k)/\Q (.int (j:Int)) H
theorem rY {ns:List Int} {its:List Value} (r:Vals (ns.map V.int) its) {i:Nat} {k:Int} (hi:i < its.length):isInt k its[i]=decide (ns[i]?=some k):=by
 have hl:=r.length;rw [yi] at hl;obtain ⟨y,ey,ry⟩:=r.get (i:=i) (x:= .int ns[i]) (by rw [yo,yj (by omega)];rfl)
 obtain ⟨t,rfl⟩:=ry;rw [yj hi] at ey;rw [yF ey,yj (by omega)]
 simp only [isInt,Option.some.injEq];exact Bool.eq_iff_iff.mpr (by simp)
theorem or:MtM X "list.index" u8:=by
 intro pins s σ H x vs v us Q I rx rv h;obtain ⟨l,ns,k,j,rfl,rfl,hH,hj,hf,q⟩:=h;cases rx;obtain ⟨b,rfl,t,rfl⟩:=cM rv;obtain ⟨z,its,n,r,hl,e⟩:=I.lstM hH;have hl:=r.length;rw [yi] at hl;have jl:j < ns.length:=(yt.mp hj).1;have hz:its.length<=sizeLine:=by rw [yi] at z;omega
 rw [sizeLine_eq] at hz
 refine call_meets PySem.F.slot_list_index ⟨_,e,rfl⟩ PySem.F.entry_list_index (PySem.F.args_list_index_2 _ _)
  (MeetsSeq.list_index l its.toArray n (.int k t) (isInt k) (fun y hy=> ?_) j (by simp;omega) (by simp;omega) ?_ fun i hi hlt=> ?_) ⟨e,⟨.int j,H,I.tok _,⟨_,rfl⟩,q⟩⟩
 . have hy':y∈its:=by simpa using hy
   obtain ⟨i,hi,rfl⟩:=zf hy';obtain ⟨y,ey,ry⟩:=r.get (i:=i) (x:= .int ns[i]) (by rw [yo,yj (by omega)];rfl)
   obtain ⟨t',rfl⟩:=ry;rw [yj hi] at ey;rw [yF ey];exact MeetsSeq.EqGives.int _ k t' t
 . have:=rY r (i:=j) (k:=k) (by omega)
   rw [decide_eq_true hj] at this;simpa using this
 . have hi':i < its.length:=by simpa using hi
   have:=rY r (i:=i) (k:=k) hi';rw [decide_eq_false (hf i hlt)] at this;simpa using this
noncomputable def RgW (r:Addr) (a n:Nat):HO:= .ext fun h=>∃t u v,IsRange h r a (a+n:Nat) 1 t u v
theorem vP {P:Program} {w:World} {H:Hp} {h:Heap} {r:Addr} {a n:Nat} (x:∃t u v,IsRange h r a (a+n:Nat) 1 t u v):ObjOk P w H h r (RgW r a n):=by
 obtain ⟨t,u,v,e⟩:=x;exact ⟨⟨t,u,v,e⟩,⟨_,e⟩,fun _ _ ⟨t',u',v',y⟩ k=>⟨t',u',v',k _ y⟩⟩
theorem ki:ck X (.type "range") (fun xs H Q=>∃a n:Nat,xs= [.int a, .int (a+n:Nat)]/\∀r,H r=none->Q (.ref r) (upd H r (RgW r a n))):=by
 intro pins s σ H xs us Q I r h;obtain ⟨a,n,rfl,q⟩:=h;obtain ⟨u1,u2,rfl,⟨t,rfl⟩,⟨u,rfl⟩⟩:=Vals.two r;refine call_range_2 ?_;exact ⟨.ref _,_,I.laid (t':=s.toks+1) (fun b ob e=>Heap.get?_push_of_some _ e) (yp _) (vP ⟨_,_,_,Heap.get?_push_size _ rfl⟩),rfl,q _ (I.hok.fresh (yp _))⟩
theorem lO (hc:X.calm=true):ck X (.type "list") (fun xs H Q=>∃(r:Addr) (a n:Nat),xs= [.ref r]/\H r=some (RgW r a n)/\n<=1000/\a<=1000/\∀l,H l=none->Q (.ref l) (upd H l (.lst ((List.range n).map fun (i:Nat)=>V.int ((a+i:Nat):Int))))):=by
 intro pins s σ H xs us Q I r h;obtain ⟨r0,a,n,rfl,hr,hn,ha,q⟩:=h;obtain ⟨u,rfl,ru⟩:=cM r;cases ru;obtain ⟨⟨t,u,v,hR⟩,_⟩:=(show ObjOk X.prog X.w H s.heap r0 (RgW r0 a n) from I.hok r0 _ hr);refine call_list_range (n:=n) (I.ok.hd hc) hR (small_one (by omega) (by omega) (by omega) (by omega)) (by rw [rangeSize_one];split<;>omega) (by omega) fun h' tk acc' c' hk hD hacc=> ?_
 have rr:Vals ((List.range n).map fun (i:Nat)=>V.int ((a+i:Nat):Int)) acc'.toList:=by
  have key:∀(ys:List Value) (k:Nat),(∀j x,ys[j]?=some x->∃t,x=Value.int ((a+(k+j):Nat):Int) t)->Vals ((List.range' k ys.length).map fun (i:Nat)=>V.int ((a+i:Nat):Int)) ys:=by
   intro ys
   induction ys with
   |nil=>intro k _;exact .nil
   |cons y ys ih=>
    intro k hk;rw [yH,List.range'_succ,yG];obtain ⟨t,e⟩:=hk 0 y rfl;refine .cons ⟨t,by rw [e];rfl⟩ (ih (k+1) fun j x ex=> ?_)
    obtain ⟨t,e⟩:=hk (j+1) x ex;exact ⟨t,by rw [e];congr 1;omega⟩
  have:=key acc'.toList 0 fun j x ex=>by
   obtain ⟨t,e⟩:=hacc.2 j x (by rw [<-yQ];exact ex)
   exact ⟨t,by rw [e];congr 1<;>omega⟩
  rw [yP,hacc.1] at this;rw [List.range_eq_range'];exact this
 have hL:(1000:Nat)<=sizeLine:=by decide +kernel
 refine ⟨.ref _,_,I.laid (t':=tk) (o:= .lst ((List.range n).map fun (i:Nat)=>V.int ((a+i:Nat):Int))) hk (yp _) ⟨by rw [yi,z7];omega,acc'.toList,c',rr,by rw [Array.toArray_toList];exact hD⟩,rfl,q _ (I.hok.fresh (yp _))⟩
end
end L2
namespace Wg
theorem Rn.snoc {m n:Nat} {V R:Nat->Vec} {M:Int} {T:Nat->Tb} {r q:Nat->Nat} {J:Nat} (H:Rn m n V R M T r q J) {r' q':Nat} (S:Stp m n M (T J) r' q'):
 ∃T2 r2 q2,Rn m n V R M T2 r2 q2 (J+1)/\T2 (J+1)=piv (T J) r' q':=by
 refine ⟨fun j=>if j<=J then T j else piv (T J) r' q',fun j=>if j < J then r j else r',fun j=>if j < J then q j else q',⟨?_,?_,?_,?_⟩,?_⟩
 . show Inv m n V R (if 0<=J then T 0 else _);rw [if_pos (by omega)]
   exact H.inv
 . show Pm m n (if 0<=J then T 0 else _);rw [if_pos (by omega)]
   exact H.pm
 . intro j hj;show Stp m n M (if j<=J then T j else _) (if j < J then r j else r') (if j < J then q j else q');rw [if_pos (by omega)]
   by_cases h:j < J
   . rw [if_pos h,if_pos h];exact H.st j h
   . have e:j=J:=by omega
     subst e;rw [if_neg h,if_neg h];exact S
 . intro j hj;show (if j+1<=J then T (j+1) else _)=piv (if j<=J then T j else _) (if j < J then r j else r') (if j < J then q j else q');rw [if_pos (by omega:j<=J)]
   by_cases h:j < J
   . rw [if_pos h,if_pos h,if_pos (by omega)]
     exact H.nx j h
   . have e:j=J:=by omega
     subst e;rw [if_neg h,if_neg h,if_neg (by omega)]
 . show (if J+1<=J then _ else _)=_;rw [if_neg (by omega)]
structure Sz (m n:Nat) (L:Nat->Nat->Int) (M:Nat):Prop where
 le:∀i c,i < m->c < n+2->(L i c).natAbs<=M
 one:1<=M
theorem Sz.V {m n M:Nat} {L:Nat->Nat->Int} (h:Sz m n L M):∀k t,k < m+n->t < m->(V0 m L k t).natAbs<=M:=by
 intro k t hk ht;unfold V0;have:=h.one;by_cases e:k < m
 . rw [if_pos e];split
   . show 1<=M;exact this
   . exact yJ _
 . rw [if_neg e,zO];exact h.le t (k - m) ht (by omega)
noncomputable def cut (m n:Nat) (V:Nat->Vec):Nat->Vec:=fun k t=>if k < m+n then V k t else 0
theorem Inv.cut {m n:Nat} {V R:Nat->Vec} {T:Tb} (I:Inv m n V R T) (P:Pm m n T):Inv m n (Wg.cut m n V) R T:=by
 refine ⟨I.pos,?_,fun c t hc ht=> ?_⟩
 . rw [<-I.det];congr 1;refine fo m fun k c hk hc=> ?_;exact if_pos (P.sd_lt hk)
 . have e:Tb.W T (Wg.cut m n V) R n c t=Tb.W T V R n c t:=by
    unfold Tb.W;split
    . rename_i h;show -(if T.hd c < m+n then V (T.hd c) t else 0)=_;rw [if_pos (P.hd_lt h)]
    . rfl
   rw [e,<-I.ln c t hc ht];refine sumN_congr fun i hi=> ?_;show T.ln i c*(if T.sd i < m+n then V (T.sd i) t else 0)=_;rw [if_pos (P.sd_lt hi)]
theorem Sz.bounds {m n M:Nat} {L:Nat->Nat->Int} {T:Tb} (h:Sz m n L M) (I:Inv m n (V0 m L) (R0 L) T) (P:Pm m n T):T.bot.natAbs<=fac m*M^m/\∀i c,i < m->c < n+2->(T.ln i c).natAbs<=fac m*M^m:=by
 have hV:∀k t,t < m->(Wg.cut m n (V0 m L) k t).natAbs<=M:=by
  intro k t ht;unfold Wg.cut;split
  . rename_i e;exact h.V k t e ht
  . exact yJ _
 refine ⟨(I.cut P).bot_le hV,fun i c hi hc=>(I.cut P).ln_le hV (fun c t hc ht=> ?_) hi hc⟩;exact h.le t c ht hc
end Wg
namespace K45
open PySem L2 Mth Tre Wd Su Tw Fm
structure FunC (K:PySem.W.Frag) (x qual:Str) (st:Stmt) (f:Addr) (fd:FuncData) (c0:Addr):Prop where
 ex:∃(oc:Value) (od:Option Addr) (kV doc pm:Value) (an:Option Addr) (ct:Value) (osl:Array (Option Value)),
  fd=PySem.W.fnOf x qual (b9 st) (aQ st) (af st) .none kV doc pm an (.ref c0) ct/\K.lookup f=some ⟨oc,od, .func fd,osl⟩/\PySem.W.codeIn K (.ref c0) qual=true
noncomputable def xX:Pos:=match aQ sLby with
 | [.Return (some (.Call _ _ [⟨_, .Lambda _ _ _ pos,_⟩,_] _)) _]=>pos
 |_=>⟨0,0,0,0⟩
abbrev lbQ:Str:=(Str.ofString "least_by"++".<locals>.")++"<lambda>"
abbrev Lm (T0:Addr) (H:Hp):Prop:=Lam T0 xX lbQ H
theorem sj {D:TA} {pl:Addr}:putF (Str.ofString "heads") (.ref D.ph) (putF (Str.ofString "sides") (.ref D.pss) (putF (Str.ofString "bottom") (.int 1) (putF (Str.ofString "lines") (.ref pl) (putF (Str.ofString "scales") (.ref D.psc) (putF (Str.ofString "terms") (.ref D.pt) [])))))=flds D pl 1:=by
 have e:∀(f:Str) (v:V),putF f v []= [(f,v)]:=fun f v=>rfl;have c:∀(f g:Str) (v x:V) (r:List (Str×V)),g≠f->putF f v ((g,x)::r)=(g,x)::putF f v r:=fun f g v x r h=>by unfold putF;rw [if_neg h];cases r<;>rfl
 unfold flds
 repeat (first|rw [e]|rw [c _ _ _ _ _ (by decide +kernel)])
theorem rP (f:Str) (v:V):∀fs:List (Str×V),(putF f v fs).length<=fs.length+1
 | []=>yp _
 |(g,x)::r=>by
  unfold putF;split
  . simp
  . have:=rP f v r;simp only [yH];omega
section
variable {P:Program} {w:World} {K:PySem.W.Frag} {mg:Str->Option Value} {base:Heap} {T0:Addr}
def qg (T0:Addr):Sp:=fun vs H Q _=>∃(a b:Addr) (ns:List Int) (ps:List Nat),vs= [.ref a, .ref b]/\SqL K H a (ns.map V.int)/\SqL K H b (nv ps)/\(∀p∈ps,p < ns.length)/\Lm T0 H/\
 (ps= []->∀H',ButT T0 H H'->Lm T0 H'->Q .non H')/\∀p∈ps,(∀r∈ps,ns.getD p 0<=ns.getD r 0)->∀H',ButT T0 H H'->Lm T0 H'->Q (.int (p:Int)) H'
theorem xF:FnScope ["numbers","places"] ["numbers","places"] (af sLby):= .of
theorem wx {f c0:Addr} {fd:FuncData} (F:FunC K "least_by" "least_by" sLby f fd c0) (B:Blt mg) (C:PySem.W.codeHdIn K c0 T0=true) (hB:base.BuiltinsAt mg T0):FnOk P w K mg base CX0 2 f fd ["numbers","places"] (qg (K:=K) T0):=by
 refine hZq fun q_ e_=> ?_;obtain ⟨oc,od,kV,doc,pm,an,ct,osl,rfl,lk,hcd⟩:=F.ex;subst e_;refine vk lk hcd xF (fun vs H Q E h=> ?_) fun A outer s H vs Q E hr h=> ?_
 . refine hZq fun q_ e_=> ?_;obtain ⟨a,b,ns,ps,rfl,_⟩:=h;subst e_;rfl
 refine hZq fun q_ e_=> ?_;obtain ⟨a,b,ns,ps,rfl,ha,hb,hps,hL,h1,h2⟩:=h;subst e_
 have hk:PSs (cxOf CX0 P w K mg base ["numbers","places"] "least_by" (af sLby) f (.ref c0) A outer s H E).nox (aQ sLby) _:=
  ah (az (r4 rfl hr rfl rfl (Or.inl rfl) rfl C hB rfl B.mi))
 exact ⟨_,hk.nox,a,b,ns,ps,rfl,rfl,ha,hb,hps,hL,h1,h2⟩
def kG (C:Addr):Sp:=fun vs H Q _=>∃(a dx pt psc pl:Addr) (m n:Nat) (scs:List Int) (us:List Tr) (ws ls:List V) (L:Nat->Nat->Int),vs= [.ref a, .ref pt, .ref psc, .ref pl]/\Tk K C/\H a=some (.ins C dx [])/\H pt=some (.lst ws)/\TrsAt H ws us/\us.length=n/\H psc=some (.lst (scs.map V.int))/\scs.length=m/\H pl=some (.lst ls)/\
 (ls.length=m/\∀i,i < m->∃q,ls[i]?=some (.ref q)/\H q=some (.lst ((Wg.ls (n+2) (L i)).map V.int)))/\m<=64/\n<=64/\
 ∀(D:TA) (H':Hp),D.a=a->D.C=C->But1 a H H'->Tab D m n scs us ws pl ls (Wg.tb0 m L) H'->H D.pss=none->H D.ph=none->Q .non H'
theorem vK:FnScope ["self","terms","scales","lines"] ["self","terms","scales","lines"] (af ie):= .of
theorem ui {f C:Addr} {fd:FuncData} (F:Fun K "__init__" "Table.__init__" ie f fd) (B:Blt mg):FnOk P w K mg base CX0 1 f fd ["self","terms","scales","lines"] (kG (K:=K) C):=by
 refine F.okb vK fun vs H Q E h=> ?_;refine hZq fun q_ e_=> ?_;obtain ⟨a,dx,pt,psc,pl,m,n,scs,us,ws,ls,L,rfl,hk,ha,hpt,hus,ul,hsc,sl,hpl,hro,m64,n64,k⟩:=h;subst e_;refine ⟨rfl,fun cdv A outer s hr=> ?_⟩
 refine ⟨_,ac (du (pv 0) (pv 1) rfl) (ac (du (pv 0) (pv 2) rfl) (ac (du (pv 0) (pv 3) rfl) (ac (du (pv 0) ad rfl)
  (ac (du (pv 0) (bQ (lP rfl) rfl B.li PyProof.Rows.boot_list (a0 (bQ kj rfl B.ra PyProof.Rows.boot_range (a0 (av ao rfl B.le PySem.boot_len (a0 (pv 2) a9)) a9)) a9)) rfl)
  (ah (du (pv 0) (bQ (lO rfl) rfl B.li PyProof.Rows.boot_list (a0 (bQ ki rfl B.ra PyProof.Rows.boot_range (a0 (av ao rfl B.le PySem.boot_len (a0 (pv 2) a9)) (a0 (ak aW (av ao rfl B.le PySem.boot_len (a0 (pv 2) a9)) (av ao rfl B.le PySem.boot_len (a0 (pv 1) a9))) a9))) a9)) rfl)))))),?_⟩
 have wl:=hus.len;have nal:∀ {x:Addr} {xs:List V},H x=some (.lst xs)->x≠a:=fun {x xs} e z=>by rw [z,ha] at e;cases e
 refine ⟨_,rfl,_,rfl,a,C,dx,_,rfl,ha,hk.cls,hk.nt,(by show 0 < 1000;decide),?_⟩
 refine ⟨_,rfl,_,rfl,a,C,dx,_,rfl,a8,hk.cls,hk.ns,(by show 1 < 1000;decide),?_⟩
 refine ⟨_,rfl,_,rfl,a,C,dx,_,rfl,a8,hk.cls,hk.nl,(by show 2 < 1000;decide),?_⟩
 refine ⟨_,rfl,a,C,dx,_,rfl,a8,hk.cls,hk.nb,(by show 3 < 1000;decide),?_⟩
 rw [iF,iF,iF];obtain ⟨fs4,ef4⟩:∃fs4,fs4=putF (Str.ofString "bottom") (.int 1) (putF (Str.ofString "lines") (.ref pl) (putF (Str.ofString "scales") (.ref psc) (putF (Str.ofString "terms") (.ref pt) []))):=⟨_,rfl⟩;rw [<-ef4];have l4:fs4.length=4:=by rw [ef4];rfl
 have o4:∀ {x:Addr} {xs:List V},H x=some (.lst xs)->(upd H a (.ins C dx fs4)) x=some (.lst xs):=fun {x xs} e=>by rw [ae (nal e)];exact e
 refine ⟨_,rfl,psc,_,rfl, .inl (SqL.of (o4 hsc)),m,(by rw [yi,sl]),fun r nr=> ?_⟩
 have nar:a≠r:=fun z=>by rw [<-z,a8] at nr;cases nr
 refine ⟨r,m,rfl,a8,by omega,fun ps nps=> ?_⟩
 have nrp:r≠ps:=fun z=>by rw [<-z,a8] at nps;cases nps
 have nps4:(upd H a (.ins C dx fs4)) ps=none:=by rw [ae nrp.symm] at nps;exact nps
 have nap:a≠ps:=fun z=>by rw [<-z,a8] at nps4;cases nps4
 refine ⟨_,rfl,a,C,dx,_,rfl,by rw [ae nap,ae nar];exact a8,hk.cls,hk.nd,by rw [l4];decide,?_⟩
 obtain ⟨H5,eH5⟩:∃H5,H5=upd (upd (upd (upd H a (.ins C dx fs4)) r (RgV r m)) ps (.lst ((List.range m).map fun (i:Nat)=>V.int i))) a (.ins C dx (putF (Str.ofString "sides") (.ref ps) fs4)):=⟨_,rfl⟩;rw [<-eH5];have h5a:H5 a=some (.ins C dx (putF (Str.ofString "sides") (.ref ps) fs4)):=by rw [eH5];exact a8
 have nr0:H r=none:=by rw [ae nar.symm] at nr;exact nr
 have nps0:H ps=none:=by rw [ae nap.symm] at nps4;exact nps4
 have o5:∀ {x:Addr} {o:HO},x≠a->H x=some o->H5 x=some o:=fun {x o} na e=>by
  rw [eH5,ae na,ae (fun z=>by rw [z,nps0] at e;cases e),ae (fun z=>by rw [z,nr0] at e;cases e),ae na]
  exact e
 have h5ps:H5 ps=some (.lst ((List.range m).map fun (i:Nat)=>V.int i)):=by rw [eH5,ae nap.symm];exact a8
 refine ⟨_,rfl,psc,_,rfl, .inl (SqL.of (o5 (nal hsc) hsc)),_,rfl,psc,_,rfl, .inl (SqL.of (o5 (nal hsc) hsc)),_,rfl,pt,_,rfl, .inl (SqL.of (o5 (nal hpt) hpt)),_,_,rfl,rfl,m,n,?_,fun r2 nr2=> ?_⟩
 . rw [yi,sl,wl,ul];simp
 refine ⟨r2,m,n,rfl,a8,by omega,by omega,fun ph nph=> ?_⟩
 have nrh:r2≠ph:=fun z=>by rw [<-z,a8] at nph;cases nph
 have nph5:H5 ph=none:=by rw [ae nrh.symm] at nph;exact nph
 have nah:a≠ph:=fun z=>by rw [<-z,h5a] at nph5;cases nph5
 have nar2:a≠r2:=fun z=>by rw [<-z,h5a] at nr2;cases nr2
 have nsh:ps≠ph:=fun z=>by rw [<-z,h5ps] at nph5;cases nph5
 have nsr:ps≠r2:=fun z=>by rw [<-z,h5ps] at nr2;cases nr2
 refine ⟨_,rfl,a,C,dx,_,rfl,by rw [ae nah,ae nar2];exact h5a,hk.cls,hk.nh,?_,?_⟩
 . have:=rP (Str.ofString "sides") (.ref ps) fs4;rw [l4] at this;omega
 have o7:∀ {x:Addr} {o:HO},x≠a->H5 x=some o->(upd (upd (upd H5 r2 (RgW r2 m n)) ph (.lst ((List.range n).map fun (i:Nat)=>V.int ((m+i:Nat):Int)))) a (.ins C dx (putF (Str.ofString "heads") (.ref ph) (putF (Str.ofString "sides") (.ref ps) fs4)))) x=some o:=fun {x o} na e=>by
  rw [ae na,ae (fun z=>by rw [z,nph5] at e;cases e),ae (fun z=>by rw [z,nr2] at e;cases e)]
  exact e
 have nph0:H ph=none:=by
  cases q:H ph with
  |none=>rfl
  |some o=>rw [o5 nah.symm q] at nph5;cases nph5
 have b1:But1 a H (upd (upd (upd H5 r2 (RgW r2 m n)) ph (.lst ((List.range n).map fun (i:Nat)=>V.int ((m+i:Nat):Int)))) a (.ins C dx (putF (Str.ofString "heads") (.ref ph) (putF (Str.ofString "sides") (.ref ps) fs4)))):=fun x o na e=>o7 na (o5 na e)
 have kd:Kd H (upd (upd (upd H5 r2 (RgW r2 m n)) ph (.lst ((List.range n).map fun (i:Nat)=>V.int ((m+i:Nat):Int)))) a (.ins C dx (putF (Str.ofString "heads") (.ref ph) (putF (Str.ofString "sides") (.ref ps) fs4)))):=by
  refine ⟨fun x xs e=>b1 x _ (fun z=>by rw [z,ha] at e;cases e) e,fun x xs e=>⟨xs,b1 x _ (nal e) e⟩⟩
 have nel:∀ {x y:Addr} {o:HO},H x=some o->H y=none->y≠x:=fun {x y o} e n z=>by rw [z,e] at n;cases n
 refine k ⟨C,a,dx,pt,psc,ps,ph⟩ _ rfl rfl b1 ⟨?_,b1 _ _ (nal hpt) hpt,hus.mono kd,ul,b1 _ _ (nal hsc) hsc,sl,b1 _ _ (nal hpl) hpl,⟨hro.1,fun i hi=> ?_⟩,?_,?_,nel hpt nps0,nel hsc nps0,nsh,nel hpl nps0,nel hpt nph0,nel hsc nph0,nel hpl nph0,m64,n64⟩ nps0 nph0
 . rw [a8,ef4];exact congrArg (fun z=>some (HO.ins C dx z)) (sj (D:=⟨C,a,dx,pt,psc,ps,ph⟩))
 . obtain ⟨q,e1,e2⟩:=hro.2 i hi;exact ⟨q,e1,b1 _ _ (nal e2) e2,(nel e2 nps0).symm,(nel e2 nph0).symm⟩
 . have e:(List.range m).map (fun (i:Nat)=>V.int i)=nv (Wg.ls m (Wg.tb0 m L).sd):=by
    unfold nv Wg.ls;rw [zI];rfl
   rw [<-e];exact o7 nap.symm h5ps
 . have e:(List.range n).map (fun (i:Nat)=>V.int ((m+i:Nat):Int))=nv (Wg.ls n (Wg.tb0 m L).hd):=by
    unfold nv Wg.ls;rw [zI];rfl
   rw [<-e,ae nah.symm];exact a8
theorem gE {X:Cx} {K:PySem.W.Frag} {tg l:Expr} {tl:TE} (hK:X.K=K) (h:PE X l tl):PI X tg l (mZ K tl):=by
 subst hK;exact aZ h
noncomputable def lim:Nat:=2^2600
structure Wb (m n:Nat) (L:Nat->Nat->Int) (scs:List Int) (C:Nat):Prop where
 ex:∃M,Wg.Sz m n L M/\Wg.fac m*M^m<=C
 sc:∀s∈scs,0 < s/\s.natAbs<=C
 le:1<=C
 big:C < lim
structure Okt (m n:Nat) (L:Nat->Nat->Int) (T:Wg.Tb):Prop where
 inv:Wg.Inv m n (Wg.V0 m L) (Wg.R0 L) T
 pm:Wg.Pm m n T
 st:Wg.Stl m n n T
theorem Wb.bnd {m n C:Nat} {L:Nat->Nat->Int} {scs:List Int} {T:Wg.Tb} (h:Wb m n L scs C) (I:Wg.Inv m n (Wg.V0 m L) (Wg.R0 L) T) (P:Wg.Pm m n T):T.bot.natAbs<=C/\∀i c,i < m->c < n+2->(T.ln i c).natAbs<=C:=by
 obtain ⟨M,h1,h2⟩:=h.ex;obtain ⟨a,b⟩:=h1.bounds I P;exact ⟨yC a h2,fun i c hi hc=>yC (b i c hi hc) h2⟩
theorem cr {C:Nat} {x:Int} (h:x.natAbs<=C) (hb:C < lim):Big x:=
 yM h (yL hb (Nat.pow_le_pow_right (by decide) (by decide)))
def pW:Sp:=fun vs H Q _=>∃(D:TA) (m n C:Nat) (scs:List Int) (us:List Tr) (ws:List V) (pl:Addr) (ls:List V) (L:Nat->Nat->Int),vs= [.ref D.a]/\Tk K D.C/\Tab D m n scs us ws pl ls (Wg.tb0 m L) H/\Wb m n L scs C/\
 ∀pl' ls' T H',ButX D H H'->Tab D m n scs us ws pl' ls' T H'->Okt m n L T->Q .non H'
theorem scSet:FnScope ["table","column","hanging"] ["table"] (af sSet):= .of
theorem wo {f fS fT:Addr} {fd dS dT:FuncData} (F:Fun K "settle" "settle" sSet f fd) (B:Blt mg)
 (GS:FnOk P w K mg base CX0 2 fS dS ["table"] (jC (K:=K))) (kS:PySem.W.keepIn K (.ref fS)=true) (bS:Binds K dS ["table"] []) (mS:mg "slack_lines"=some (.ref fS))
 (GT:FnOk P w K mg base CX0 2 fT dT ["table","at","column"] (lX (K:=K))) (kT:PySem.W.keepIn K (.ref fT)=true) (bT:Binds K dT ["table","at","column"] []) (mT:mg "turn"=some (.ref fT)):
 FnOk P w K mg base CX0 3 f fd ["table"] (pW (K:=K)):=by
 refine F.okb scSet fun vs H Q E h=> ?_;refine hZq fun q_ e_=> ?_;obtain ⟨D,m,n,C,scs,us,ws,pl,ls,L,rfl,hk,hT,hW,k⟩:=h;subst e_;refine ⟨rfl,fun cdv A outer s hr=> ?_⟩;have nd3:(["at","table","column"]:List Str).Nodup:=by decide +kernel
 refine ⟨_,ah (bZ PassesOwn.never rfl (bP rfl B.ra (a0 (av ao rfl B.le PySem.boot_len (a0 (aM (pv 0) rfl) a9)) a9)) (iZ (i:=1) scSet.nd rfl (Or.inr rfl) (Or.inl rfl))
  (ac (eM (i:=2) (NC:= ["at","table","column"]) (mp:= [none,some 0,some 1]) rfl scSet.nd rfl rfl rfl (gE (K:=K) rfl (ai GS hr rfl mS kS bS .nil ax (a0 (pv 0) a9)))
   (fun _ _ _ _ _=>pgA 0 nd3) (fun _ _ _ _ _=>db (aG jJ (am (r:=rIxL K) aq (am (r:=rIxL K) aq (ci (K:=K) rfl (pv 1) rfl) (pv 0) fun _ _=>rfl) (pv 2) fun _ _=>rfl) ad (aA _))) (fun _ _ _ _ _=>pv 0))
  (ah (cj (qU (pv 2) (by intro _;rfl)) (ah (dc (ai GT hr rfl mT kT bT .nil ax (a0 (pv 0) (a0 (am aq (pv 2) ad fun _ _=>rfl) (a0 (pv 1) a9)))))) aU)))),?_⟩
 have hL20:(20000:Nat)<=sizeLine:=by decide +kernel
 have fl:∀b pl,(flds D pl b).lookup (Str.ofString "lines")=some (.ref pl):=fun b pl=>rfl;have wl:=hT.tt.len;have m64:=hT.m64;have n64:=hT.n64;have ul:=hT.ul;refine ⟨_,rfl,D.a,D.C,D.dx,_,_,rfl,hT.ob,hk.cls,hk.nt,rfl,D.pt,_,rfl, .inl (SqL.of hT.tm),(ws.length:Int),rfl,by omega,by omega,?_⟩
 refine cW (n:=ws.length) (fun i σ H'=>(∃v1 v2,σ= [some (.ref D.a),v1,v2])/\∃pl' ls' T',ButX D H H'/\Tab D m n scs us ws pl' ls' T' H'/\Wg.Inv m n (Wg.V0 m L) (Wg.R0 L) T'/\Wg.Pm m n T'/\Wg.Stl m n i T')
  ⟨⟨none,none,rfl⟩,pl,ls,_,fun x o _ _ _ e=>e,hT,Wg.inv0,Wg.pm0,fun c hc=>absurd hc (Nat.not_lt_zero _)⟩ ?_ ?_
 . intro i σ H' hi z_;refine hZq fun q_ e_=> ?_;obtain ⟨⟨v1,v2,rfl⟩,pl',ls',T',bx,tb,I,Pm,St⟩:=z_;subst e_;rw [zr];have hin:i < n:=by omega
   obtain ⟨bb,bl⟩:=hW.bnd I Pm;refine ag ?_;dsimp only;refine dR ?_;refine cR rfl ?_;refine ⟨_,rfl,D,m,n,scs,us,ws,pl',ls',T',rfl,hk,tb,fun l H1 nl s1 hl=> ?_⟩;have tb1:=tb.same s1;refine ⟨l,rfl,⟨_,SqL.of hl⟩,fun L' nL=> ?_⟩;refine e9 (xs:=nv (slk m T')) (fun j acc H2=>Same H1 H2/\H2 L'=some (.lst acc)/\acc=nv (((slk m T').take j).filter fun x=>decide (T'.ln x i≠0))) ⟨aa nL,a8,rfl⟩ (fun j acc H2 p=>SqL.of (p.1 _ _ hl)) ?_ ?_
   . intro j x acc H2 hj ex z_;refine hZq fun q_ e_=> ?_;obtain ⟨s2,hL,rfl⟩:=z_;unfold nv at ex;rw [yo] at ex;obtain ⟨r,er,rfl⟩:=yw.mp ex;obtain ⟨rm,rs⟩:=slk_mem.mp (yq er);have tb2:=tb1.same s2;obtain ⟨q,eq,hq,_,_⟩:=tb2.ro.2 r rm;subst e_
     have al:(((slk m T').take j).filter fun x=>decide (T'.ln x i≠0)).length<=m:=by
      refine yC (yW _ _) (yC (List.length_take_le' _ _) ?_);unfold slk;exact yC (yW _ _) (by rw [z7];exact yp _)
     refine ⟨_,rfl,D.a,D.C,D.dx,_,_,rfl,tb2.ob,hk.cls,hk.nl,fl _ _,_,rfl,pl',_,(r:Int),_,rfl,rfl,SqL.of tb2.li,aw eq,_,rfl,q,_,(i:Int),_,rfl,rfl,SqL.of hq,aw (fA (by omega)),rfl,_,rfl,?_⟩
     by_cases z:T'.ln r i=0
     . rw [decide_eq_true (show V.int (T'.ln r i)=V.int 0 by rw [z])]
       refine iteF ?_;refine CompS.mk hj ⟨s2,hL,?_⟩;rw [ay er,yZ];simp [z]
     . rw [decide_eq_false (show¬V.int (T'.ln r i)=V.int 0 from fun e=>z (V.int.inj e))];refine iteT ?_;refine ⟨_,rfl,CompN.mk hj (by unfold nv;rw [yi];omega) hL ⟨aF nL s2,a8,?_⟩⟩
       rw [ay er,yZ];simp [z,nv]
   . rintro acc H2 ⟨s2,hL,rfl⟩;have tb2:=tb1.same s2;have lnv:(nv (slk m T')).length=(slk m T').length:=by unfold nv;rw [yi]
     rw [lnv,yO] at hL;refine ag ?_;obtain ⟨hg,ehg⟩:∃hg,hg=(slk m T').filter fun x=>decide (T'.ln x i≠0):=⟨_,rfl⟩;rw [<-ehg] at hL;refine ⟨_,rfl,_, .inl ⟨_,SqL.of hL,rfl⟩,?_⟩
     cases hg with
     |nil=>
      refine iteF ?_;refine ⟨⟨_,_,rfl⟩,pl',ls',T',(bx.trans (.of_same s1)).trans (.of_same s2),tb2,I,Pm,St.next fun x hx hs=> ?_⟩;refine Classical.byContradiction fun z=> ?_
      have:x∈(slk m T').filter fun x=>decide (T'.ln x i≠0):=by
       rw [za,slk_mem];exact ⟨⟨hx,hs⟩,decide_eq_true z⟩
      rw [<-ehg] at this;cases this
     |cons r rest=>
      have mr:r∈(slk m T').filter fun x=>decide (T'.ln x i≠0):=by rw [<-ehg];exact yn
      rw [za,slk_mem,decide_eq_true_iff] at mr;obtain ⟨⟨hrm,hrs⟩,hrz⟩:=mr;refine iteT ?_;refine ⟨_,rfl,_,rfl,L',_,((0:Nat):Int),_,rfl,rfl,SqL.of hL,aw rfl,_,rfl,D,m,n,scs,us,ws,pl',ls',T',r,i,rfl,hk,tb2,hrm,hin,hrz,I.pos,cr bb hW.big,fun a c ha hc=>cr (bl a c ha hc) hW.big,fun pl2 ls2 H3 bx3 tb3=> ?_⟩;exact ⟨⟨_,_,rfl⟩,pl2,ls2,_,((bx.trans (.of_same s1)).trans (.of_same s2)).trans bx3,tb3,Wg.piv_inv I hrm hin hrz,Pm.piv hrm hin,St.turn I hrm hin hrs hrz⟩
 . intro σ H' z_;refine hZq fun q_ e_=> ?_;obtain ⟨_,pl',ls',T',bx,tb,I,Pm,St⟩:=z_;subst e_;rw [wl,ul] at St;exact k pl' ls' T' H' bx tb ⟨I,Pm,St⟩
end
end K45
namespace Dj
open PySem PySem.Spec PySem.W PyProof.Rows L2 Tre Srt
section
variable {X:Cx}
end
open PySem PySem.Spec PySem.W PyProof.Rows L2 Tre Srt
theorem uz {prog:Program} {w:World} {A:Around} {s:Shared} {fin:Bool} {Q:Bool->Shared->Prop} {x y:Int} {t u:Tok} {as bs:List Value} {q:List (Bool×Bool)} (h:bv A s as bs q)
 (hq:Q (lexV fin ((x==y,decide (x < y))::q)) s):KatLex prog w A true fin Q ((Value.int x t::as).zip (Value.int y u::bs)) 0 s:=by
 rw [zj];refine kat_cons (SeqAt.EqAt.int_int x t y u prog w _ _ ?_)
 cases e:(x==y) with
 |true=>
  rw [e] at hq;exact kat_yes (jd (by decide) h hq)
 |false=>
  rw [e] at hq;refine kat_no ?_;exact oneLt_int hq
def Hi (t:Tr):Prop:=∃x r,t= .tup (.int x::r)
section
variable {X:Cx} {pins:List (Addr×Obj)} {σ:L2.St} {H:Hp} {s:Shared}
theorem mR (I:Inv X pins σ H s):∀ {vs:List V} {ts:List Tr} {as:List Value},TrsAt H vs ts->Vals vs as->(∀t∈ts,Hi t)->∃fs,KatTups s.heap as fs/\fs.length=as.length/\∀v∈fs,∃(x:Int) (t:Tok),v= .int x t
 |vs,[],as,h,r,_=>by
  unfold TrsAt at h;subst h;cases r;exact ⟨[], .nil,rfl,fun v m=>by cases m⟩
 |vs,t::ts,as,h,r,hh=>by
  obtain ⟨v,vr,rfl,h1,h2⟩:=h.inv
  cases r with
  |cons r1 r2=>
   obtain ⟨fs,f1,f2,f3⟩:=mR I h2 r2 fun u m=>hh u (ym _ m);obtain ⟨x,rr,rfl⟩:=hh t yn;unfold TrAt at h1;obtain ⟨a,ws,rfl,g,k⟩:=h1;cases r1;obtain ⟨y,yr,rfl,k1,k2⟩:=k.inv;unfold TrAt at k1;subst k1;obtain ⟨bs,o,n,q1,ho,hc,hd⟩:=bJ I g
   cases q1 with
   |cons q1 q2=>
    obtain ⟨tk,rfl⟩:=q1;refine ⟨_,KatTups.cons ho hc hd rfl f1,by simp [f2],fun v m=> ?_⟩
    rcases yx.mp m with e|m
    . exact ⟨x,tk,e⟩
    . exact f3 v m
theorem iP {Q:VK} {a:Addr} {as:List Value} {vs:List V} {ts:List Tr} (hu:X.A.units+60 < cLine) (I:Inv X pins σ H s) (rv:Vals vs as) (hT:TrsAt H vs ts) (hlen:ts.length < 64) (hts:∀t∈ts,Hi t/\t.pure/\t.depth<=40) (hcm:∀t∈ts,∀u∈ts,Cm t u)
 (hcol:∀(E:Value->Shared->Prop) (Q':List Value->Shared->Prop),(∀h' tk,(∀b o,s.heap.get? b=some o->h'.get? b=some o)->s.heap.objs.size < h'.objs.size->Q' as {s with heap:=h',toks:=tk})->wpAny (model X.prog X.w) X.A.in1 (collect (.ref a)) Q' E s)
 (q:SrQ H ts Q):wpAny (model X.prog X.w) X.A (call (.builtin "sorted") [.ref a]) (EP X pins σ Q) X.xe s:=by
 have l1:=hT.len;have l2:=rv.length;have O:Srt.Ord fun i j=>ltT (ts.getD i .non) (ts.getD j .non):=⟨fun a b h=>dz h,fun a b c h1 h2=>j5 h1 h2⟩
 have at_:∀i,i < as.length->∃t v a,ts.getD i .non=t/\t∈ts/\TrAt H v t/\RelV v a/\as.getD i Value.none=a:=fun i hi=>by
  have hi':i < ts.length:=by omega
  refine hZq fun q_ e_=> ?_;obtain ⟨v,e1,e2⟩:=hT.get (i:=i) (t:=ts[i]) (yj hi');obtain ⟨a,e3,e4⟩:=rv.get e1;subst e_;exact ⟨ts[i],v,a,by rw [yv,yj hi'];rfl,z5 hi',e2,e4,by rw [yv,e3];rfl⟩
 refine f7 (κ:=tuples' true) (vs:=as) O (by omega) (fun Q' hQ'=> ?_) (fun h2 h' tk kp E' R hR=> ?_) (fun h' tk kp i j R hi hj hR=> ?_) fun p hp hup h' tk D e kp sz he=> ?_
 . exact hcol _ Q' hQ'
 . have I':Inv X pins σ H {s with heap:=h',toks:=tk}:=I.kept (t':=tk) kp;obtain ⟨fs,k1,k2,k3⟩:=mR I' hT rv fun t m=>(hts t m).1;refine kat_kind (T:=Value.type "int") k1 (by omega) (fun v m=> ?_) (by decide +kernel) ?_
   . obtain ⟨x,t,rfl⟩:=k3 v m;exact .now
   . rw [show (Value.type "int" !=Value.type "tuple")=true by decide +kernel]
     exact hR
 . have I':Inv X pins σ H {s with heap:=h',toks:=tk}:=I.kept (t':=tk) kp;refine hZq fun q_ e_=> ?_;obtain ⟨t,v,a,et,mt,ht,ra,ea⟩:=at_ i hi;obtain ⟨u,v',b,eu,mu,hu',rb,eb⟩:=at_ j hj;have hc':=hcm t mt u mu;obtain ⟨⟨x1,r1,rfl⟩,p1,d1⟩:=hts t mt;obtain ⟨⟨x2,r2,rfl⟩,p2,d2⟩:=hts u mu;unfold TrAt at ht hu';obtain ⟨x0,vs0,rfl,g0,g1⟩:=ht;obtain ⟨y0,ws0,rfl,g2,g3⟩:=hu';subst e_;cases ra;cases rb;refine hZq fun q_ e_=> ?_;obtain ⟨as0,o,n,q3,ho,hcl,hd'⟩:=bJ I' g0;obtain ⟨bs0,o',n',q4,ho',hcl',hd2⟩:=bJ I' g2;have z0:=g1.len;have z1:=g3.len;have z2:=q3.length;have z3:=q4.length;obtain ⟨y1,yr1,rfl,w1,w2⟩:=g1.inv;obtain ⟨y2,yr2,rfl,w3,w4⟩:=g3.inv;subst e_;unfold TrAt at w1 w3;subst w1 w3
   cases q3 with
   |cons q3 q3'=>
    cases q4 with
    |cons q4 q4'=>
     obtain ⟨tk1,rfl⟩:=q3;obtain ⟨tk2,rfl⟩:=q4;unfold Tr.depth at d1;unfold Trs.depth at d1;unfold Tr.pure at p1;unfold Trs.pure at p1;unfold kas_ask;rw [ea,eb];refine kat_lt (b:=true) ho hd' ho' hd2 ?_;rw [zo,zo];have hu1:X.A.in1.in1.units+40+1 < cLine:=by show X.A.units+1+1+40+1 < cLine;omega
     have e:∀q,lexV (decide ((Value.int x1 tk1::_).toArray.size < (Value.int x2 tk2::_).toArray.size)) ((x1==x2,decide (x1 < x2))::q)=lexV (decide ((Tr.int x1::r1).length < (Tr.int x2::r2).length)) ((x1==x2,decide (x1 < x2))::q):=fun q=>by
      rw [yu,yu,<-z2,<-z3,z0,z1]
     by_cases ex:(x1==x2)=true
     . unfold Cm at hc';unfold Cms at hc'
       have hc2:Cms r1 r2:=by
        rcases hc' with ⟨_,c⟩|⟨n,_⟩
        . exact c
        . unfold Tre.eqT at n;rw [ex] at n;cases n
       have hx':=e7 (A:=X.A.in1.in1) I' hu1 (fun d pp cc a1 a2 b1 b2=>eA I' 40 d pp cc a1 a2 b1 b2 hu1) (by omega) (.inl p1.2) hc2 w2 w4 q3' q4'
       refine uz hx' ?_;rw [e]
       have e2:lexV (decide ((Tr.int x1::r1).length < (Tr.int x2::r2).length)) ((x1==x2,decide (x1 < x2))::qs r1 r2)=ltT (ts.getD i .non) (ts.getD j .non):=by
        rw [et,eu];refine aN ?_;rw [ltT_iff];have e4:x1=x2:=beq_iff_eq.mp ex;have el:decide ((Tr.int x1::r1).length < (Tr.int x2::r2).length)=decide (r1.length < r2.length):=by simp
        rw [el];simp only [lexV,ex,if_true,dg,Tre.code,Tre.codes,LtC,LtCs,Co.num.injEq,e4,beq_self_eq_true];constructor
        . intro h;exact .inr ⟨trivial,h⟩
        . rintro (h|h)
          . exact absurd h (Int.lt_irrefl _)
          . exact h.2
       rw [e2];exact hR
     . have exf:(x1==x2)=false:=by simpa using ex
       rw [zj];refine kat_cons (SeqAt.EqAt.int_int x1 tk1 x2 tk2 X.prog X.w _ _ ?_);rw [exf];refine kat_no ?_;refine oneLt_int ?_
       have e2:decide (x1 < x2)=ltT (ts.getD i .non) (ts.getD j .non):=by
        rw [et,eu];refine aN ?_;rw [ltT_iff,decide_eq_true_iff];have ne:x1≠x2:=fun z=>ex (beq_iff_eq.mpr z);simp only [Tre.code,Tre.codes,LtC,LtCs,Co.num.injEq];constructor
        . intro h;exact .inl h
        . rintro (h|h)
          . exact h
          . exact absurd h.1 ne
       rw [e2];exact hR
 . have hin:∀i∈p.toList,i < ts.length:=fun i m=>by
    have:=yX.mp (List.Perm.mem_iff hp |>.mp m);omega
   refine ⟨.ref D,upd H D (.lst (p.toList.map fun i=>vs.getD i .non)),I.laid (t':=tk) kp sz ?_,rfl,?_⟩
   . refine ⟨?_,p.toList.map fun i=>as.getD i Value.none,e,Vals.map rv fun i m=>by have:=hin i m;omega,he⟩
     rw [yi,yP,hp.size];have:(64:Nat)<=sizeLine:=by decide +kernel
     omega
   . refine q _ _ (p.toList.map fun i=>ts.getD i .non) (I.hok.fresh sz) ?_ (TrsAt.map hT hin) fun i j t u hij e1 e2=> ?_
     . have:=List.Perm.map (fun i=>ts.getD i Tr.non) hp;rw [show as.length=ts.length by omega,cC] at this
       exact this
     . rw [yo] at e1 e2;refine hZq fun q_ e_=> ?_;obtain ⟨a,ea,rfl⟩:=yw.mp e1;obtain ⟨b,eb,rfl⟩:=yw.mp e2;subst e_
       have hj:j < as.length:=by
        have:=(yt.mp eb).1;rw [yP,hp.size] at this;exact this
       have:=hup i j hij hj;rw [c9,c9,<-yQ,<-yQ,ea,eb] at this;exact this
def qN:List V->Hp->VK->Prop:=fun xs H Q=>∃(l:Addr) (vs:List V) (ts:List Tr),xs= [.ref l]/\H l=some (.lst vs)/\TrsAt H vs ts/\ts.length < 64/\(∀t∈ts,Hi t/\t.pure/\t.depth<=40)/\(∀t∈ts,∀u∈ts,Cm t u)/\SrQ H ts Q
theorem call_sortedI (hu:X.A.units+60 < cLine):ck X (.builtin "sorted") qN:=by
 intro pins s σ H xs us Q I r h;obtain ⟨l,vs,ts,rfl,hl,hT,hlen,hts,hcm,q⟩:=h;obtain ⟨u,rfl,ru⟩:=cM r;cases ru;obtain ⟨as,rv,pl,_⟩:=I.list (SqL.of hl);have l1:=hT.len;have l2:=rv.length;have h64:(64:Nat)<=sizeLine:=by decide +kernel
 refine iP hu I rv hT hlen hts hcm (fun E Q' hQ'=> ?_) q;refine collect_list pl.isList ?_ (by omega)
 have:=hQ' ((s.heap.push (seqObj "list" #[] 0)).update s.heap.objs.size (Obj.mapSeq (· ++as.toArray))) s.toks (fun b o e=> ?_) ?_
 . simpa using this
 . have hlt:b < s.heap.objs.size:=Heap.lt_size e;rw [Heap.get?_update_ne _ _ _ _ (yA hlt),Heap.get?_push_ne _ _ _ (yA hlt)];exact e
 . rw [Heap.size_update,size_push'];exact zF _
end
end Dj
namespace L2
open PySem PySem.Spec PyProof.Rows
theorem oG {K K':PySem.W.Frag} {a:Addr} {mp:List (Option Nat)} {tl:TE} {tc:TT} {te:TE} {Q:VK} {σ rest:L2.St} {H H1:Hp} {xs:List V} (e:subS mp σ=none::none::rest)
 (ha:∀Q:VK,Q (.ref a) H1->tl σ H Q) (h1:SqL K H1 a xs)
 (h:∀D,H1 D=none->∃Pv:Nat->List V->Hp->Prop,Pv 0 [] (upd H1 D (.lst []))/\(∀i acc H,Pv i acc H->SqL K H a xs)/\
  (∀i z acc H,i < xs.length->Pv i acc H->xs[i]?=some z->∃T x y,z= .ref T/\SqT K' H T [x,y]/\tc (some x::some y::rest) H fun b H5=>if b=true then te (some x::some y::rest) H5 (CompN xs.length i D acc Pv) else CompS xs.length i acc Pv H5)/\∀acc H,Pv xs.length acc H->Q (.ref D) H):
 cu mp (mZ K tl) (gTup K' 2 (bf (aL 0) (bf (aL 1) gNil))) tc te σ H Q:=by
 unfold cu;rw [e];refine ha _ ⟨a,rfl,⟨xs,h1⟩,fun D nD=> ?_⟩;obtain ⟨Pv,p0,pq,ps,pd⟩:=h D nD;refine ⟨fun i m acc H=>m=xs.length - i/\i<=xs.length/\Pv i acc H,⟨xs.length,by simp,yJ _,p0⟩,?_⟩
 rintro i m acc H ⟨rfl,hi,p⟩;have q1:=pq i acc H p;by_cases hlt:i < xs.length
 . refine .inr ⟨⟨xs,xs[i],q1,by simp [hlt]⟩,?_⟩
   rintro v H' ⟨rfl,y⟩;have ev:=y xs q1;obtain ⟨T,x,z,rfl,hT,hte⟩:=ps i v acc _ hlt p ev;exact ⟨T,[x,z],rfl,hT,rfl,x,[z],rfl,z,[],rfl,rfl,ext2,hte⟩
 . have ei:i=xs.length:=by omega
   subst ei;exact .inl ⟨⟨xs,q1,yp _⟩,pd acc H p⟩
end L2
namespace K45
open PySem L2 Mth Tre Wd Su Tw Fm
theorem eS {t u:Tr} {ts us:List Tr} (h:Cm t u) (hs:Cms ts us):Cms (t::ts) (u::us):=by
 unfold Cms;cases e:Tre.eqT t u
 . exact .inr ⟨rfl,h⟩
 . exact .inl ⟨rfl,hs⟩
theorem bh {us:List Tr}:Cms [] us:=by unfold Cms;trivial
theorem fu {a b:Int}:Cm (.int a) (.int b):=by unfold Cm;trivial
theorem dG {ts us:List Tr} (h:Cms ts us):Cm (.tup ts) (.tup us):=by unfold Cm;exact h
theorem at_i {H:Hp} {x:Int}:TrAt H (.int x) (.int x):=by unfold TrAt;rfl
noncomputable def cT (p:Nat×Int):Tr:= .tup [.int (p.1:Int), .int p.2]
noncomputable def hcs (n:Nat) (T:Wg.Tb) (i:Nat):List (Nat×Int):=((List.range n).filter fun c=>decide (T.ln i c≠0)).map fun c=>(T.hd c,-T.ln i c)
noncomputable def cnt (n:Nat) (T:Wg.Tb) (i:Nat):List (Nat×Int):=(T.sd i,T.bot)::hcs n T i
noncomputable def wf (scs:List Int) (g:Int) (p:Nat×Int):Fr:=(fx (p.2*scs.getD p.1 0) g,fy (p.2*scs.getD p.1 0) g)
noncomputable def wT (p:Nat×Fr):Tr:= .tup [.int (p.1:Int),frT p.2]
noncomputable def gF (s:Int):List Int->Int
 | []=>s
 |x::r=>gF (Int.gcd s x:Int) r
theorem wS (s:Int) (a b:List Int):gF s (a++b)=gF (gF s a) b:=by
 induction a generalizing s with
 |nil=>rfl
 |cons x r ih=>simp only [z6,gF,ih]
theorem wR {s:Int} {a:List Int} (h:0 < s):0 < gF s a/\(gF s a).natAbs<=s.natAbs:=by
 induction a generalizing s with
 |nil=>exact ⟨h,yp _⟩
 |cons x r ih=>
  have g0:0 < Int.gcd s x:=Int.gcd_pos_of_ne_zero_left _ (by omega)
  have g1:Int.gcd s x<=s.natAbs:=Int.gcd_le_natAbs_left x (by omega)
  obtain ⟨a1,a2⟩:=ih (s:=(Int.gcd s x:Int)) (by omega)
  exact ⟨a1,yC a2 (by rw [Int.natAbs_natCast];exact g1)⟩
theorem j4 {n:Nat} {T:Wg.Tb} {i:Nat} {p:Nat×Int} (h:p∈hcs n T i):∃c,c < n/\T.ln i c≠0/\p=(T.hd c,-T.ln i c):=by
 unfold hcs at h;obtain ⟨c,hc,rfl⟩:=yR.mp h;rw [za,yX,decide_eq_true_iff] at hc;exact ⟨c,hc.1,hc.2,rfl⟩
theorem ni {n:Nat} {T:Wg.Tb} {i:Nat}:(hcs n T i).length<=n:=by
 unfold hcs;rw [yi];exact yC (yW _ _) (by rw [z7];exact yp _)
section
variable {P:Program} {w:World} {K:PySem.W.Frag} {mg:Str->Option Value} {base:Heap} {T0:Addr}
def qk:Sp:=fun vs H Q _=>∃(D:TA) (m n:Nat) (scs:List Int) (us:List Tr) (ws:List V) (pl:Addr) (ls:List V) (T:Wg.Tb) (i:Nat) (ql:Addr),vs= [.ref D.a, .ref ql]/\Tk K D.C/\Tab D m n scs us ws pl ls T H/\H ql=some (.lst ((Wg.ls (n+2) (T.ln i)).map V.int))/\
 ∀l H' ws',H l=none->Same H H'->H' l=some (.lst ws')->TrsAt H' ws' ((hcs n T i).map cT)->Q (.ref l) H'
theorem xH:FnScope ["table","line"] ["table","line"] (af sHco):= .of
theorem wA {f:Addr} {fd:FuncData} (F:Fun K "head_counts" "head_counts" sHco f fd) (B:Blt mg):FnOk P w K mg base CX0 1 f fd ["table","line"] (qk (K:=K)):=by
 refine F.okb xH fun vs H Q E h=> ?_;refine hZq fun q_ e_=> ?_;obtain ⟨D,m,n,scs,us,ws,pl,ls,T,i0,ql,rfl,hk,hT,hql,k⟩:=h;subst e_;refine ⟨rfl,fun cdv A outer s hr=> ?_⟩;have nd2:(["head","count"]:List Str).Nodup:=by decide +kernel
 refine ⟨_,ah (az (aV (NC:= ["head","count"]) (mp:= [none,none]) (g:=gTup K 2 (bf (aL 0) (bf (aL 1) gNil))) rfl (iY (k:= .lst) rfl B.zi (a0 (aM (pv 0) rfl) (a0 (pv 1) a9)))
  (fun _ _ _ _ _=>be (n:=2) rfl (aj (pgA 0 nd2) (aj (pgA 1 nd2) aP))) (fun _ _ _ _ _=>db (aG jJ (pv 1) ad (aA _)))
  (fun _ _ _ _ _=>aK (a0 (pv 0) (a0 (cy bA (pv 1)) a9))))),?_⟩
 have hL20:(20000:Nat)<=sizeLine:=by decide +kernel
 have n64:=hT.n64;refine iu (xs:=nv (Wg.ls n T.hd)) (ys:=(Wg.ls (n+2) (T.ln i0)).map V.int) (a:=D.ph) (b:=ql) (by rw [c7,yi,Wg.ls_len];omega) (fun Q q=>⟨_,rfl,D.a,D.C,D.dx,_,_,rfl,hT.ob,hk.cls,hk.nh,rfl,_,rfl,q⟩) (SqL.of hT.hd) (SqL.of hql) fun L nL=> ?_
 refine ⟨fun j acc H'=>Same H H'/\H' L=some (.lst acc)/\TrsAt H' acc ((((List.range j).filter fun c=>decide (T.ln i0 c≠0)).map fun c=>(T.hd c,-T.ln i0 c)).map cT),⟨aa nL,a8, .nil⟩,fun j acc H' p=>⟨SqL.of (p.1 _ _ hT.hd),SqL.of (p.1 _ _ hql)⟩,?_,?_⟩
 . rintro j Tt x y acc H' hj _ ⟨s2,hL,hA⟩ ex ey nT;rw [c7] at hj;rw [ij hj] at ex;rw [fA (by omega)] at ey
   cases ex;cases ey;have sT:=aa (o:= .tup [.int (T.hd j:Nat), .int (T.ln i0 j)]) nT;refine ⟨Tt,_,rfl,SqT.of a8,rfl,_,_,rfl,_,_,rfl,rfl,ext2,?_⟩;refine ⟨_,rfl,rfl,_,rfl,?_⟩
   have al:acc.length<=j:=by
    rw [hA.len,yi,yi];exact yC (yW _ _) (by rw [z7];exact yp _)
   by_cases z:T.ln i0 j=0
   . rw [decide_eq_true (show V.int (T.ln i0 j)=V.int 0 by rw [z])]
     refine iteF ?_;refine CompS.mk (by rw [c7];exact hj) ⟨s2.trans sT,sT _ _ hL,?_⟩
     rw [z9,yZ];have:(List.filter (fun c=>decide (T.ln i0 c≠0)) [j])= []:=by simp [z]
     rw [this,List.append_nil];exact hA.mono (Kd.of_same sT)
   . rw [decide_eq_false (show¬V.int (T.ln i0 j)=V.int 0 from fun e=>z (V.int.inj e))];refine iteT ?_;refine ⟨_,rfl,_,rfl,_,rfl,two,fun t nt=> ?_⟩;have st:=aa (o:= .tup [.int (T.hd j:Nat), .int (-T.ln i0 j)]) nt;refine CompN.mk (by rw [c7];exact hj) (by omega) (st _ _ (sT _ _ hL)) ⟨aF nL ((s2.trans sT).trans st),a8,?_⟩
     rw [z9,yZ];have e1:(List.filter (fun c=>decide (T.ln i0 c≠0)) [j])= [j]:=by simp [z]
     rw [e1,yK,yK];have kd:=Kd.upd (ys:=acc++ [.ref t]) (st _ _ (sT _ _ hL));refine TrsAt.app (.cons ?_ .nil) ((hA.mono (Kd.of_same (sT.trans st))).mono kd);exact (di (a:= .int (T.hd j:Nat)) (b:= .int (-T.ln i0 j)) a8 at_i at_i).mono kd
 . rintro acc H2 ⟨s2,hL,hA⟩;rw [c7] at hA;exact k L H2 acc nL s2 hL hA
def pN:Sp:=fun vs H Q _=>∃(D:TA) (m n:Nat) (scs:List Int) (us:List Tr) (ws:List V) (pl:Addr) (ls:List V) (T:Wg.Tb) (lc:Addr) (wc:List V) (cs:List (Nat×Int)) (g:Int),vs= [.ref D.a, .ref lc, .int g]/\Tk K D.C/\Tab D m n scs us ws pl ls T H/\H lc=some (.lst wc)/\TrsAt H wc (cs.map cT)/\
 (∀p∈cs,p.1 < m/\Big p.2)/\(∀s∈scs,Big s)/\0 < g/\Big g/\cs.length < 64/\
 ∀l H' ws2 us2,H l=none->Same H H'->H' l=some (.lst ws2)->TrsAt H' ws2 us2->us2.Perm ((cs.map fun p=>(p.1,wf scs g p)).map wT)->(∀(i j:Nat) (t u:Tr),i<=j->us2[i]?=some t->us2[j]?=some u->ltT u t=false)->Q (.ref l) H'
theorem xA:FnScope ["table","counts","bottom"] ["table","counts","bottom"] (af sWby):= .of
theorem w6 {f fF:Addr} {fd dF:FuncData} (F:Fun K "weights_by" "weights_by" sWby f fd) (B:Blt mg)
 (GF:FnOk P w K mg base CX0 2 fF dF ["top","bottom"] lZ) (kF:PySem.W.keepIn K (.ref fF)=true) (bF:Binds K dF ["top","bottom"] []) (mF:mg "fraction"=some (.ref fF)):
 FnOk P w K mg base CX0 3 f fd ["table","counts","bottom"] (pN (K:=K)):=by
 refine F.okb xA fun vs H Q E h=> ?_;refine hZq fun q_ e_=> ?_;obtain ⟨D,m,n,scs,us,ws,pl,ls,T,lc,wc,cs,g,rfl,hk,hT,hlc,hwc,hcs,hsc,g0,gb,c64,k⟩:=h;subst e_;refine ⟨rfl,fun cdv A outer s hr=> ?_⟩;have hu60:(A.deeper (PyProof.Rows.envOfC (Str.ofString "weights_by") (af sWby) s.heap.objs.size f cdv)).units+60 < cLine:=by have:=hr.units;omega
 have nd4:(["place","count","table","bottom"]:List Str).Nodup:=by decide +kernel
 refine ⟨_,ah (az (av (Dj.call_sortedI hu60) rfl B.so PyProof.Rows.boot_sorted (a0 (aV (NC:= ["place","count","table","bottom"]) (mp:= [none,none,some 0,some 2]) (g:=gTup K 2 (bf (aL 0) (bf (aL 1) gNil))) rfl (aZ (pv 1))
  (fun _ _ _ _ _=>be (n:=2) rfl (aj (pgA 0 nd4) (aj (pgA 1 nd4) aP))) (fun _ _ _ _ _=>aS)
  (fun _ _ _ _ _=>aK (a0 (pv 0) (a0 (ai GF hr rfl mF kF bF .nil ax (a0 (ak aO (pv 1) (am (r:=rIxL K) aq (ci (K:=K) rfl (pv 2) rfl) (pv 0) fun _ _=>rfl)) (a0 (pv 3) a9))) a9)))) a9))),?_⟩
 have hL20:(20000:Nat)<=sizeLine:=by decide +kernel
 have wl:=hwc.len;rw [yi] at wl;refine tI ?_;refine oG (K':=K) (xs:=wc) (rest:= [some (.ref D.a),some (.int g)]) (a:=lc) rfl (fun Q q=>⟨_,rfl,q⟩) (SqL.of hlc) fun L nL=> ?_;refine ⟨fun j acc H'=>Same H H'/\H' L=some (.lst acc)/\TrsAt H' acc (((cs.take j).map fun p=>(p.1,wf scs g p)).map wT),⟨aa nL,a8,by rw [zg];exact .nil⟩,fun j acc H' p=>SqL.of (p.1 _ _ hlc),?_,?_⟩
 . rintro j z acc H' hj ⟨s2,hL,hA⟩ ez;refine hZq fun q_ e_=> ?_;obtain ⟨t',et',ht'⟩:=(hwc.mono (Kd.of_same s2)).get' ez;rw [yo] at et';obtain ⟨⟨pc,c⟩,eq,rfl⟩:=yw.mp et';obtain ⟨T',x,y,rfl,hT',hx,hy⟩:=c6 ht';unfold TrAt at hx hy;subst hx hy;obtain ⟨pm,cb⟩:=hcs _ (yq eq);subst e_;have tb2:=hT.same s2;have sl:=hT.sl
   have esc:scs[pc]?=some (scs.getD pc 0):=by
    rw [yv,yj (by omega)]
    rfl
   refine ⟨T',_,_,rfl,SqT.of hT',?_⟩;refine fi ?_;refine ⟨_,rfl,_,rfl,_,rfl,D.a,D.C,D.dx,_,_,rfl,tb2.ob,hk.cls,hk.ns,rfl,_,rfl,D.psc,_,(pc:Int), .int (scs.getD pc 0),rfl,rfl,SqL.of tb2.sc,aw (by rw [yo,esc];rfl),c,_,rfl,rfl,⟨cb,hsc _ (yq esc)⟩,_,rfl,c*scs.getD pc 0,g,rfl,g0,gb,fun q nq=> ?_⟩
   have sq:=aa (o:= .tup [.int (fx (c*scs.getD pc 0) g), .int (fy (c*scs.getD pc 0) g)]) nq;refine ⟨two,fun t nt=> ?_⟩;have st:=aa (o:= .tup [.int (pc:Int), .ref q]) nt;refine CompN.mk hj (by rw [hA.len,yi,yi,yS];omega) (st _ _ (sq _ _ hL)) ⟨aF nL ((s2.trans sq).trans st),a8,?_⟩
   have kd:=Kd.upd (ys:=acc++ [.ref t]) (st _ _ (sq _ _ hL));rw [ay eq,yK,yK];refine TrsAt.app (.cons ?_ .nil) ((hA.mono (Kd.of_same (sq.trans st))).mono kd);have hq:TrAt (upd (upd H' q (.tup [.int (fx (c*scs.getD pc 0) g), .int (fy (c*scs.getD pc 0) g)])) t (.tup [.int (pc:Int), .ref q])) (.ref q) (frT (wf scs g (pc,c))):=di (st _ _ a8) at_i at_i;exact (di (a:= .int (pc:Int)) (b:=frT (wf scs g (pc,c))) a8 at_i hq).mono kd
 . rintro acc H2 ⟨s2,hL,hA⟩;rw [wl,yO] at hA;refine ⟨L,acc,_,rfl,hL,hA,by rw [yi,yi];exact c64,fun t mt=> ?_,fun t mt u mu=> ?_,fun D2 ws2 us2 nD2 hp hws2 hup=> ?_⟩
   . obtain ⟨q,mq,rfl⟩:=yR.mp mt;refine ⟨⟨_,_,rfl⟩,?_,?_⟩
     . unfold wT frT Tr.pure Trs.pure Trs.pure Tr.pure Trs.pure Tr.pure Trs.pure;simp [Trs.pure,Tr.pure]
     . unfold wT frT;simp [Tr.depth,Trs.depth]
   . refine hZq fun q_ e_=> ?_;obtain ⟨q,mq,rfl⟩:=yR.mp mt;obtain ⟨q',mq',rfl⟩:=yR.mp mu;subst e_;exact dG (eS fu (eS (dG (eS fu (eS fu bh))) bh))
   . have sD:=aa (o:= .lst ws2) nD2;exact k D2 _ ws2 us2 (s2.free nD2) (s2.trans sD) a8 (hws2.mono (Kd.of_same sD)) hp hup
end
end K45
namespace L2
open PySem PySem.Spec PyProof.Rows
theorem kc {n:Nat} {D:Addr} {tc:TT} {te:TE} {rest:L2.St} {Q:VK} {H1:Hp} (Pv:Nat->List V->Hp->Prop) (h0:Pv 0 [] (upd H1 D (.lst [])))
 (hs:∀(i:Nat) acc H,i < n->Pv i acc H->tc (some (.int (0+(i:Int)))::rest) H fun b H5=>if b=true then te (some (.int (0+(i:Int)))::rest) H5 (CompN n i D acc Pv) else CompS n i acc Pv H5)
 (hd:∀acc H,Pv n acc H->Q (.ref D) H):jw (Itr 0 n) D tc te rest Q H1:=by
 refine ⟨fun i m acc H=>m=n - i/\i<=n/\Pv i acc H,⟨n,by simp,yJ _,h0⟩,?_⟩
 rintro i m acc H ⟨rfl,hi,p⟩;by_cases hlt:i < n
 . refine .inr ⟨hlt,fun x H' y=>⟨ext1,?_⟩⟩;obtain ⟨e,y⟩:=y;subst e y;exact hs i acc _ hlt p
 . have e:i=n:=by omega
   subst e;exact .inl ⟨yp _,hd acc H p⟩
section
variable {X:Cx}
end
end L2
namespace Tre
open PySem PySem.Spec PyProof.Rows L2
section
variable {X:Cx}
def rEqL (b:Bool):R2:=fun x y H Q=>∃l m vs ws ts us,x= .ref l/\y= .ref m/\H l=some (.lst vs)/\H m=some (.lst ws)/\TrsAt H vs ts/\TrsAt H ws us/\(Trs.pure ts\/Trs.pure us)/\Trs.depth ts<=40/\Q (.bl (eqTs ts us==b)) H
theorem ss {ts us:List Tr} (h:ts.length≠us.length):eqTs ts us=false:=by
 rw [eO,Bool.and_eq_false_iff];right;simp [h]
theorem rM {A:Around} {pins:List (Addr×Obj)} {σ:L2.St} {H:Hp} {s:Shared} {l m:Addr} {vs ws:List V} {ts us:List Tr} (hu:A.units+50 < cLine) (I:Inv X pins σ H s) (h1:H l=some (.lst vs)) (h2:H m=some (.lst ws)) (k1:TrsAt H vs ts) (k2:TrsAt H ws us) (hp:Trs.pure ts\/Trs.pure us) (hd:Trs.depth ts<=40):
 SeqAt.RcAt A s (.ref l) (.ref m) (eqTs ts us)/\SeqAt.RcNeAt A s (.ref l) (.ref m) (!eqTs ts us):=by
 obtain ⟨as,r1,p1,_⟩:=I.list (SqL.of h1);obtain ⟨bs,r2,p2,_⟩:=I.list (SqL.of h2);have l1:=k1.len;have l2:=k2.len;have l3:=r1.length;have l4:=r2.length;by_cases z:ts.length=us.length
 . have hsz:as.toArray.size=bs.toArray.size:=by rw [yu,yu];omega
   have he:=fun j (g1:j < as.toArray.size) (g2:j < bs.toArray.size)=>rX (A:=A.in1) I (by show A.units+1+42 < cLine;omega) k1 k2 hp hd r1 r2 j g1 g2
   have a1:=SeqAt.RcAt.lists (A:=A) (e:=eqJ ts us) p1.isList p2.isList hsz (by omega) he
   have a2:=SeqAt.RcNeAt.lists (A:=A) (e:=eqJ ts us) p1.isList p2.isList hsz (by omega) he
   have e:(List.range as.toArray.size).all (eqJ ts us)=eqTs ts us:=by
    rw [eO,<-z,Nat.min_self];have:as.toArray.size=ts.length:=by rw [yu];omega
    rw [this];simp
   rw [e] at a1 a2;exact ⟨a1,a2⟩
 . have hsz:(as.toArray.size !=bs.toArray.size)=true:=by
    rw [yu,yu];simp only [bne_iff_ne,ne_eq];omega
   rw [ss z];exact ⟨SeqAt.RcAt.lists_lengths p1.isList p2.isList hsz (by omega),SeqAt.RcNeAt.lists_lengths p1.isList p2.isList hsz (by omega)⟩
theorem rn (hu:X.A.units+60 < cLine):OpR X (compareOp .Eq) (rEqL true):=by
 intro pins s σ H x y v u Q I rx ry h;obtain ⟨l,m,vs,ws,ts,us,rfl,rfl,h1,h2,k1,k2,hp,hd,q⟩:=h;cases rx;cases ry;rw [nV] at q;exact (rM (A:=X.A) (by omega) I h1 h2 k1 k2 hp hd).1 X.prog X.w X.xe _ ⟨.bl (eqTs ts us),H,I,rfl,q⟩
open PySem PySem.Spec PyProof.Rows L2
end
open PySem PySem.Spec PyProof.Rows L2
theorem aY {M:Model} {A:Around} {E:Value->Shared->Prop} {s:Shared} {l:Addr} {items:Array Value} {n:Nat} {Q:Array Value->Shared->Prop} (hl:s.heap.get? l=some {cls:= .type "list",data:= .seq items n}) (h:Q items s):wpAny M A (Builtin.List.listItems (.ref l)) Q E s:=by
 unfold Builtin.List.listItems;refine wpAny_bind ?_;unfold seqItems?;refine wpAny_bind (wpAny_load hl ?_);exact wpAny_pure (wpAny_pure h)
theorem j9 (l b:Addr) (items items2:Array Value) (n n2:Nat):∀(k i:Nat) (q:List (Bool×Bool)),items.size - i=k->
 Meets (Builtin.«list.__eq__.loop» {pos:= [Value.ref l,Value.ref b,rawInt (i:Int),rawInt 0]}) (fun A R s=>s.heap.get? l=some {cls:= .type "list",data:= .seq items n}/\s.heap.get? b=some {cls:= .type "list",data:= .seq items2 n2}/\
  bv A.in1 s (items.toList.drop i) (items2.toList.drop i) q/\R (.ok (.ret (.bool (lexV (decide (items.size < items2.size)) q)))) s):=by
 intro k
 induction k with
 |zero=>
  intro i q hk prog w A R s h;obtain ⟨hl,hb,hx,h⟩:=h;have e1:items[i]?=none:=by simp;omega
  have d1:items.toList.drop i= []:=by simp;omega
  rw [d1] at hx
  have hq:q= []:=by
   cases h2:items2.toList.drop i<;>(rw [h2] at hx;unfold bv at hx;exact hx)
  subst hq;refine wpAny_bind (aY hl (wpAny_bind (aY hb ?_)));show wpAny _ _ (match (items[i]?,items2[i]?) with|(some x,some y)=>_|_=>_) _ _ _
  rw [e1];refine wpAny_bind (aY hl (wpAny_bind (aY hb ?_)));exact wpAny_pure h
 |succ k ih=>
  intro i q hk prog w A R s h;obtain ⟨hl,hb,hx,h⟩:=h;have hi:i < items.size:=by omega
  have d1:items.toList.drop i=items[i]::items.toList.drop (i+1):=by
   rw [List.drop_eq_getElem_cons (by simpa using hi)]
   simp
  refine wpAny_bind (aY hl (wpAny_bind (aY hb ?_)));show wpAny _ _ (match (items[i]?,items2[i]?) with|(some x,some y)=>_|_=>_) _ _ _
  rw [d1] at hx;by_cases hj:i < items2.size
  . have d2:items2.toList.drop i=items2[i]::items2.toList.drop (i+1):=by
     rw [List.drop_eq_getElem_cons (by simpa using hj)]
     simp
    rw [d2] at hx;rw [yV hi,yV hj]
    cases q with
    |nil=>exact hx.elim
    |cons p q=>
     obtain ⟨e,lo⟩:=p;obtain ⟨he,hlt,hlx⟩:=hx;refine wpAny_bind (he prog w _ _ ?_)
     cases e with
     |true=>
      refine wpAny_pure ⟨plainId_quiet MeetsSeq3.plain_eq_loop _,codeAny_builtin MeetsSeq3.entry_eq_loop ?_⟩;rw [Around.under_plainId MeetsSeq3.plain_eq_loop _];have:=ih (i+1) q (by omega) prog w A R s ⟨hl,hb,hlx rfl,h⟩
      exact this
     |false=>
      refine wpAny_bind (aY hl (wpAny_bind (aY hb ?_)));show wpAny _ _ (match items[i]?,items2[i]?,CmpOp.Lt with|some _,some _,CmpOp.Eq=>_|some _,some _,CmpOp.NotEq=>_|some x,some y,x_1=>_|_,_,_=>_) _ _ _
      rw [yV hi,yV hj];refine wpAny_bind (hlt rfl prog w _ _ ?_);exact wpAny_pure h
  . have e2:items2[i]?=none:=by simp;omega
    have d2:items2.toList.drop i= []:=by simp;omega
    rw [d2] at hx;have hq:q= []:=by unfold bv at hx;exact hx
    subst hq;rw [yV hi,e2];refine wpAny_bind (aY hl (wpAny_bind (aY hb ?_)));exact wpAny_pure h
theorem jS (l b:Addr) (items items2:Array Value) (n n2:Nat) (q:List (Bool×Bool)):
 Meets (Builtin.«list.__lt__» ⟨[.ref l, .ref b],[]⟩)
  (fun A R s=>s.heap.get? l=some {cls:= .type "list",data:= .seq items n}/\s.heap.get? b=some {cls:= .type "list",data:= .seq items2 n2}/\
   bv A.in1 s items.toList items2.toList q/\R (.ok (.ret (.bool (lexV (decide (items.size < items2.size)) q)))) s):=by
 intro prog w A R s h;obtain ⟨hl,hb,hx,h⟩:=h;refine wpAny_bind (m:=slotArgs _ _ _) (wpAny_pure ?_);refine wpAny_bind (wpAny_isInstance (T:="list") (b:=true) ⟨_,hb,rfl⟩ (by first|exact AutoSeq1.sub_list_list|exact PySem.F.sub_list_list|rfl) ?_)
 refine wpAny_pure ⟨plainId_quiet MeetsSeq3.plain_eq_loop _,codeAny_builtin MeetsSeq3.entry_eq_loop ?_⟩;rw [Around.under_plainId MeetsSeq3.plain_eq_loop _];exact j9 l b items items2 n n2 _ 0 q rfl prog w A R s ⟨hl,hb,by simpa using hx,h⟩
open PySem PySem.Spec PySem.W PyProof.Rows L2 Srt
section
variable {X:Cx}
end
open PySem PySem.Spec PySem.W PyProof.Rows L2 Srt
theorem ow {A:Around} {s:Shared} {l b:Addr} {items items2:Array Value} {n n2:Nat} {q:List (Bool×Bool)} (hl:s.heap.get? l=some {cls:= .type "list",data:= .seq items n}) (hb:s.heap.get? b=some {cls:= .type "list",data:= .seq items2 n2}) (hu:A.units < cLine)
 (hx:bv A.in1 s items.toList items2.toList q):LtAt A s (.ref l) (.ref b) (lexV (decide (items.size < items2.size)) q):=by
 intro prog w E Q h
 exact richCompare_meets_room (op:= .Lt) ⟨_,hl,rfl⟩ ⟨_,hb,rfl⟩ PySem.F.slot_list_lt PySem.F.entry_list_lt (PySem.F.args_list_lt_2 _ _) (jS l b items items2 n n2 q)
  ⟨hl,hb,hx,show Value.bool (lexV (decide (items.size < items2.size)) q)≠Value.notImplemented/\Q (.bool (lexV (decide (items.size < items2.size)) q)) s from ⟨(fun x=>nomatch x),h⟩⟩ hu
variable {X:Cx}
def rLt2:R2:=fun x y H Q=>∃(l b:Addr) (u v:Int),x= .ref l/\y= .ref b/\H l=some (.lst [.int u, .int v])/\H b=some (.lst [.int 0, .int 0])/\Q (.bl (decide (u < 0\/(u=0/\v < 0)))) H
theorem vW (hu:X.A.units+50 < cLine):OpR X (compareOp .Lt) rLt2:=by
 intro pins s σ H x y vx vy Q I rx ry h;obtain ⟨l,b,u,v,rfl,rfl,hl,hb,q⟩:=h;cases rx;cases ry;obtain ⟨its,n,r,e,z⟩:=I.lst hl;obtain ⟨its2,n2,r2,e2,z2⟩:=I.lst hb;have hu1:X.A.in1.units+40+1 < cLine:=by show X.A.units+1+40+1 < cLine;omega
 have at_:∀a c:Int,TrsAt H [.int a, .int c] [.int a, .int c]:=fun a c=> .cons (by unfold TrAt;rfl) (.cons (by unfold TrAt;rfl) .nil)
 have cm:∀a c:Int,Cm (.int a) (.int c):=fun a c=>by unfold Cm;trivial
 have cms:Cms [.int u, .int v] [.int 0, .int 0]:=by
  unfold Cms;cases k:Tre.eqT (.int u) (.int 0)
  . exact .inr ⟨rfl,cm _ _⟩
  . refine .inl ⟨rfl,?_⟩;unfold Cms;cases k2:Tre.eqT (.int v) (.int 0)
    . exact .inr ⟨rfl,cm _ _⟩
    . exact .inl ⟨rfl,by unfold Cms;trivial⟩
 have hx:=e7 (A:=X.A.in1) I hu1 (fun d pp cc a1 a2 b1 b2=>eA I 40 d pp cc a1 a2 b1 b2 hu1) (by simp [Trs.depth,Tr.depth]) (.inl (by simp [Trs.pure,Tr.pure])) cms (at_ u v) (at_ 0 0) r r2
 have:=ow (A:=X.A) e e2 (by omega) (by simpa using hx)
 have l2:=r.length;have l3:=r2.length
 have ev:lexV (decide (its.toArray.size < its2.toArray.size)) (qs [.int u, .int v] [.int 0, .int 0])=decide (u < 0\/(u=0/\v < 0)):=by
  have e0:decide (its.toArray.size < its2.toArray.size)=decide (([.int u, .int v]:List Tr).length < ([.int 0, .int 0]:List Tr).length):=by
   rw [yu,yu,<-l2,<-l3];rfl
  rw [e0];refine aN ?_;rw [dg,decide_eq_true_iff];simp [codes,code,LtCs,LtC]
 rw [ev] at this;exact this X.prog X.w X.xe _ ⟨.bl _,H,I,rfl,q⟩
end Tre
namespace K45
open PySem L2 Mth Tre Wd Su Tw Fm
noncomputable def gcn (scs:List Int) (cs:List (Nat×Int)):Int:=gF 0 (cs.map fun p=>p.2*scs.getD p.1 0)
noncomputable def wts (scs:List Int) (cs:List (Nat×Int)):List (Nat×Fr):=cs.map fun p=>(p.1,wf scs (gcn scs cs) p)
def Ngv (n:Nat) (T:Wg.Tb) (i:Nat):Prop:=T.ln i n < 0\/(T.ln i n=0/\T.ln i (n+1) < 0)
def tq (H H':Hp) (l:Addr) (ws2:List V) (us2:List Tr) (wl:List (Nat×Fr)):Prop:=
 H' l=some (.lst ws2)/\TrsAt H' ws2 us2/\us2.Perm (wl.map wT)/\∀(i j:Nat) (t u:Tr),i<=j->us2[i]?=some t->us2[j]?=some u->ltT u t=false
theorem Okt.head {m n:Nat} {L:Nat->Nat->Int} {T:Wg.Tb} (h:Okt m n L T) {i c:Nat} (hi:i < m) (hs:T.sd i < m) (hc:c < n) (z:T.ln i c≠0):T.hd c < m:=
 Classical.byContradiction fun y=>z (h.st c hc hc (by omega) i hi hs)
theorem Wb.cnts {m n C:Nat} {L:Nat->Nat->Int} {scs:List Int} {T:Wg.Tb} (h:Wb m n L scs C) (O:Okt m n L T) {i:Nat} (hi:i < m) (hs:T.sd i < m):∀p∈cnt n T i,p.1 < m/\p.2.natAbs<=C:=by
 obtain ⟨b1,b2⟩:=h.bnd O.inv O.pm;intro p mp;unfold cnt at mp;rcases yx.mp mp with rfl|mp
 . exact ⟨hs,b1⟩
 . obtain ⟨c,hc,hz,rfl⟩:=j4 mp;refine ⟨O.head hi hs hc hz,?_⟩;show (-T.ln i c).natAbs<=C;rw [zO];exact b2 i c hi (by omega)
theorem Wb.gcn {m n C:Nat} {L:Nat->Nat->Int} {scs:List Int} {T:Wg.Tb} (h:Wb m n L scs C) (sl:scs.length=m) (O:Okt m n L T) {i:Nat} (hi:i < m) (hs:T.sd i < m):0 < K45.gcn scs (cnt n T i)/\(K45.gcn scs (cnt n T i)).natAbs<=C*C:=by
 obtain ⟨b1,b2⟩:=h.bnd O.inv O.pm;unfold K45.gcn cnt;simp only [yG,gF]
 have hsc:scs.getD (T.sd i) 0∈scs:=by
  rw [yv,yj (by omega)]
  exact z5 _
 obtain ⟨s0,s1⟩:=h.sc _ hsc;have p0:0 < T.bot*scs.getD (T.sd i) 0:=zP O.inv.pos s0
 have e:(Int.gcd 0 (T.bot*scs.getD (T.sd i) 0):Int)=T.bot*scs.getD (T.sd i) 0:=by
  rw [Int.gcd_zero_left];omega
 rw [e];obtain ⟨a1,a2⟩:=wR (a:=(hcs n T i).map fun p=>p.2*scs.getD p.1 0) p0;refine ⟨a1,yC a2 ?_⟩;rw [yT];exact zM b1 s1
theorem big2 {C:Nat} {x:Int} (h:x.natAbs<=C*C) (hb:C < lim):Big x:=by
 exact yM h (yM (zM (Nat.le_of_lt hb) (Nat.le_of_lt hb)) (yM (Nat.le_of_eq (Nat.pow_add 2 2600 2600).symm) (Nat.pow_lt_pow_right (by decide) (by decide))))
section
variable {P:Program} {w:World} {K:PySem.W.Frag} {mg:Str->Option Value} {base:Heap} {T0:Addr}
def pO:Sp:=fun vs H Q _=>∃(D:TA) (m n C:Nat) (scs:List Int) (us:List Tr) (ws:List V) (pl:Addr) (ls:List V) (L:Nat->Nat->Int) (T:Wg.Tb) (i:Nat),vs= [.ref D.a, .int (i:Int)]/\Tk K D.C/\Tab D m n scs us ws pl ls T H/\Wb m n L scs C/\Okt m n L T/\i < m/\T.sd i < m/\n < 60/\
 ∀l H' ws2 us2,H l=none->Same H H'->tq H H' l ws2 us2 (wts scs (cnt n T i))->Q (.ref l) H'
theorem scWag:FnScope ["table","at","counts","shared","place","count"] ["table","at"] (af sWag):= .of
theorem w8 {f fH fC fW:Addr} {fd dH fdC dW:FuncData} (F:Fun K "weights_against" "weights_against" sWag f fd) (B:Blt mg)
 (GH:FnOk P w K mg base CX0 1 fH dH ["table","line"] (qk (K:=K))) (kH:PySem.W.keepIn K (.ref fH)=true) (bH:Binds K dH ["table","line"] []) (mH:mg "head_counts"=some (.ref fH))
 (FC:Fun K "common_divisor" "common_divisor" sCd fC fdC) (bC:Binds K fdC ["one","other"] []) (mC:mg "common_divisor"=some (.ref fC))
 (GW:FnOk P w K mg base CX0 3 fW dW ["table","counts","bottom"] (pN (K:=K))) (kW:PySem.W.keepIn K (.ref fW)=true) (bW:Binds K dW ["table","counts","bottom"] []) (mW:mg "weights_by"=some (.ref fW)):
 FnOk P w K mg base CX0 4 f fd ["table","at"] (pO (K:=K)):=by
 have GC:FnOk P w K mg base CX0 1 fC fdC ["one","other"] spCd:=rA FC B;refine F.okb scWag fun vs H Q E h=> ?_;refine hZq fun q_ e_=> ?_;obtain ⟨D,m,n,C,scs,us,ws,pl,ls,L,T,i,rfl,hk,hT,hW,hO,hi,hs,hn60,k⟩:=h;subst e_;refine ⟨rfl,fun cdv A outer s hr=> ?_⟩;have hr1:Room 1 _:=hr.mono (by decide)
 refine ⟨_,ac (psA 2 scWag.nd (ak cJ (bu (a0 (aK (a0 (am aq (aM (pv 0) rfl) (pv 1) fun _ _=>rfl) (a0 (aM (pv 0) rfl) a9))) a9)) (ai GH hr1 rfl mH kH bH .nil ax (a0 (pv 0) (a0 (am aq (aM (pv 0) rfl) (pv 1) fun _ _=>rfl) a9)))))
  (ac (psA 3 scWag.nd ad)
  (ac (bZ PassesOwn.never rfl (aZ (pv 2)) (be rfl (aj (pgA 4 scWag.nd) (aj (pgA 5 scWag.nd) aP)))
   (ah (psA 3 scWag.nd (ai GC hr1 rfl mC FC.kp bC .nil ax (a0 (pv 3) (a0 (ak aO (pv 5) (am aq (aM (pv 0) rfl) (pv 4) fun _ _=>rfl)) a9))))))
  (ah (az (ai GW hr rfl mW kW bW .nil ax (a0 (pv 0) (a0 (pv 2) (a0 (pv 3) a9)))))))),?_⟩
 have hL20:(20000:Nat)<=sizeLine:=by decide +kernel
 have n64:=hT.n64;have sl:=hT.sl;refine hZq fun q_ e_=> ?_;obtain ⟨q,eq,hq,_,_⟩:=hT.ro.2 i hi;obtain ⟨b1,b2⟩:=hW.bnd hO.inv hO.pm;subst e_;refine ⟨_,rfl,D.a,D.C,D.dx,_,_,rfl,hT.ob,hk.cls,hk.nd,rfl,_,rfl,D.pss,_,(i:Int),_,rfl,rfl,SqL.of hT.sd,aw (ij hi),_,rfl,D.a,D.C,D.dx,_,_,rfl,hT.ob,hk.cls,hk.nb,rfl,two,fun t nt=> ?_⟩;have sT:=aa (o:= .tup [.int (T.sd i:Nat), .int T.bot]) nt;refine ⟨(by show 1<=sizeLine;decide),fun l1 nl1=> ?_⟩
 have sl1:=aa (o:= .lst [.ref t]) nl1;have tb1:=(hT.same sT).same sl1;refine ⟨_,rfl,_,rfl,D.a,D.C,D.dx,_,_,rfl,tb1.ob,hk.cls,hk.nl,rfl,_,rfl,pl,_,(i:Int),_,rfl,rfl,SqL.of tb1.li,aw eq,?_⟩;refine ⟨D,m,n,scs,us,ws,pl,ls,T,i,q,rfl,hk,tb1,sl1 _ _ (sT _ _ hq),fun lh H2 wh nlh s2 hlh hwh=> ?_⟩;have whl:=hwh.len;rw [yi] at whl;have hcl:=ni (n:=n) (T:=T) (i:=i);refine ⟨l1,lh,[.ref t],wh,rfl,rfl,s2 _ _ a8,hlh,by show 1+wh.length<=sizeLine;omega,fun lc nlc=> ?_⟩
 have s3:=aa (o:= .lst ([.ref t]++wh)) nlc;have tb3:=(tb1.same s2).same s3;have sAll:Same H (upd H2 lc (.lst ([.ref t]++wh))):=((sT.trans sl1).trans s2).trans s3
 have hc3:TrsAt (upd H2 lc (.lst ([.ref t]++wh))) ([.ref t]++wh) ((cnt n T i).map cT):=by
  unfold cnt;rw [yG];refine .cons ?_ (hwh.mono (Kd.of_same s3));exact di (a:= .int (T.sd i:Nat)) (b:= .int T.bot) (s3 _ _ (s2 _ _ (sl1 _ _ a8))) at_i at_i
 obtain ⟨H3,eH3⟩:∃H3,H3=upd H2 lc (.lst ([.ref t]++wh)):=⟨_,rfl⟩;have hlc:H3 lc=some (.lst ([.ref t]++wh)):=by rw [eH3];exact a8
 rw [<-eH3] at hc3 tb3 sAll ⊢;obtain ⟨wc,ewc⟩:∃wc,wc=([.ref t]++wh:List V):=⟨_,rfl⟩;rw [<-ewc] at hlc hc3;have wcl:=hc3.len;rw [yi] at wcl;have hcn:=hW.cnts hO hi hs;obtain ⟨g0,g1⟩:=hW.gcn sl hO hi hs;refine ⟨_,rfl,lc,rfl,⟨_,SqL.of hlc⟩,?_⟩;refine dC (xs:=wc) (fun j σ H'=>H'=H3/\∃v4 v5:Option V,σ= [some (.ref D.a),some (.int (i:Int)),some (.ref lc),some (.int (gF 0 (((cnt n T i).take j).map fun p=>p.2*scs.getD p.1 0))),v4,v5]) ⟨rfl,none,none,rfl⟩ (fun j σ H' _ p=>by rw [p.1];exact SqL.of hlc) ?_ ?_
 . intro j x σ H1 ex z_;refine hZq fun q_ e_=> ?_;obtain ⟨rfl,v4,v5,rfl⟩:=z_;obtain ⟨t',et,ht⟩:=hc3.get' ex;rw [yo] at et;obtain ⟨⟨pc,c⟩,ep,rfl⟩:=yw.mp et;obtain ⟨rf,x1,y1,rfl,hrf,hx,hy⟩:=c6 ht;unfold TrAt at hx hy;subst hx hy;obtain ⟨pm,cb⟩:=hcn _ (yq ep)
   have esc:scs[pc]?=some (scs.getD pc 0):=by
    rw [yv,yj (show pc < scs.length by omega)]
    rfl
   obtain ⟨s0,s1⟩:=hW.sc _ (yq esc);subst e_;refine ⟨rf,_,rfl,SqT.of hrf,rfl,_,_,rfl,_,_,rfl,rfl,?_⟩;refine ⟨_,rfl,_,rfl,_,rfl,D.a,D.C,D.dx,_,_,rfl,tb3.ob,hk.cls,hk.ns,rfl,_,rfl,D.psc,_,(pc:Int), .int (scs.getD pc 0),rfl,rfl,SqL.of tb3.sc,aw (by rw [yo,esc];rfl),c,_,rfl,rfl,⟨cr cb hW.big,cr s1 hW.big⟩,_,_,rfl,?_⟩
   refine ⟨rfl,some (.int (pc:Int)),some (.int c),?_⟩;rw [ay ep,yK,wS];rfl
 . rintro σ H1 ⟨rfl,v4,v5,rfl⟩;rw [wcl,yO];refine ⟨_,rfl,_,rfl,_,rfl,D,m,n,scs,us,ws,pl,ls,T,lc,wc,cnt n T i,gcn scs (cnt n T i),rfl,hk,tb3,hlc,hc3,fun p mp=>⟨(hcn p mp).1,cr (hcn p mp).2 hW.big⟩,fun x mx=>cr (hW.sc x mx).2 hW.big,g0,big2 g1 hW.big,?_,fun l H' ws2 us2 nl s4 h1 h2 h3 h4=> ?_⟩
   . unfold cnt;rw [yH];omega
   . exact k l H' ws2 us2 (sAll.free nl) (sAll.trans s4) ⟨h1,h2,h3,h4⟩
def ButY (T0:Addr) (D:TA) (H H':Hp):Prop:=∀x o,x≠T0->x≠D.a->x≠D.pss->x≠D.ph->H x=some o->H' x=some o
theorem ButY.trans {T0:Addr} {D:TA} {H H1 H2:Hp} (a:ButY T0 D H H1) (b:ButY T0 D H1 H2):ButY T0 D H H2:=fun x o h0 h1 h2 h3 e=>b x o h0 h1 h2 h3 (a x o h0 h1 h2 h3 e)
theorem ButY.of_same {T0:Addr} {D:TA} {H H':Hp} (s:Same H H'):ButY T0 D H H':=fun x o _ _ _ _ e=>s _ _ e
theorem ButY.of_x {T0:Addr} {D:TA} {H H':Hp} (s:ButX D H H'):ButY T0 D H H':=fun x o _ h1 h2 h3 e=>s x o h1 h2 h3 e
theorem ButY.of_t {T0:Addr} {D:TA} {H H':Hp} (s:ButT T0 H H'):ButY T0 D H H':=fun x o h0 _ _ _ e=>s x o h0 e
theorem Lm.same {T0:Addr} {H H':Hp} (s:Same H H') (h:Lm T0 H):Lm T0 H':=by
 rcases h with h|⟨c,h,h2⟩
 . exact .inl (s _ _ h)
 . exact .inr ⟨c,s _ _ h,s _ _ h2⟩
theorem Lm.butX {T0:Addr} {D:TA} {m n:Nat} {scs:List Int} {us:List Tr} {ws:List V} {pl:Addr} {ls:List V} {T:Wg.Tb} {H H':Hp} (t:Tab D m n scs us ws pl ls T H) (b:ButX D H H') (h:Lm T0 H):Lm T0 H':=by
 have k:∀ {x:Addr} {o:HO},H x=some o->(∀C dx fs,o≠ .ins C dx fs)->(∀xs,o≠ .lst xs)->H' x=some o:=fun {x o} e h1 h2=>by
  refine b x o (fun z=> ?_) (fun z=> ?_) (fun z=> ?_) e
  . rw [z,t.ob] at e;exact h1 _ _ _ (yF e).symm
  . rw [z,t.sd] at e;exact h2 _ (yF e).symm
  . rw [z,t.hd] at e;exact h2 _ (yF e).symm
 rcases h with h|⟨c,h,h2⟩
 . exact .inl (k h (by intro a b c z;cases z) (by intro a z;cases z))
 . exact .inr ⟨c,k h (by intro a b c z;cases z) (by intro a z;cases z),k h2 (by intro a b c z;cases z) (by intro a z;cases z)⟩
theorem Lm.tbl {T0:Addr} {H:Hp} (h:Lm T0 H):∃ps,H T0=some (.tbl ps):=h.tb
theorem rD {m:Nat} {f:Nat->Nat}:nv (Wg.ls m f)=(Wg.ls m fun i=>((f i:Nat):Int)).map V.int:=by
 unfold nv Wg.ls;rw [zI,zI];rfl
theorem fZ {m i:Nat} {f:Nat->Int} (h:i < m):(Wg.ls m f).getD i 0=f i:=by
 rw [yv,Wg.ls_at h];rfl
theorem cut2 {n:Nat} {f:Nat->Int}:cutV ((Wg.ls (n+2) f).map V.int) (some (-2)) none= [.int (f n), .int (f (n+1))]:=by
 have l:((Wg.ls (n+2) f).map V.int).length=n+2:=by rw [yi,Wg.ls_len]
 have h1:HT.sIx (n+2) 0 (some (-2))=n:=by
  show (if (-2:Int) < 0 then ((-2:Int)+((n+2:Nat):Int)).toNat else min (-2:Int).toNat (n+2))=n;rw [if_pos (by decide)]
  omega
 have h2:HT.sIx (n+2) (n+2) none=n+2:=rfl;unfold cutV;rw [l,h1,h2];refine zQ fun i=> ?_;rw [List.getElem?_take,List.getElem?_drop,yo];by_cases hi:i < 2
 . rw [if_pos (by omega),Wg.ls_at (by omega)]
   rcases Nat.lt_or_ge i 1 with z|z
   . have:i=0:=by omega
     subst this;rfl
   . have:i=1:=by omega
     subst this;rfl
 . rw [if_neg (by omega)]
   exact (zb (by simp;omega)).symm
instance {n:Nat} {T:Wg.Tb} {i:Nat}:Decidable (Ngv n T i):=by unfold Ngv;infer_instance
def pY (T0:Addr):Sp:=fun vs H Q _=>∃(D:TA) (m n C:Nat) (scs:List Int) (us:List Tr) (ws:List V) (pl:Addr) (ls:List V) (L:Nat->Nat->Int) (T:Wg.Tb),vs= [.ref D.a]/\Tk K D.C/\Tab D m n scs us ws pl ls T H/\Wb m n L scs C/\Okt m n L T/\Lm T0 H/\n < 60/\
 (∀pl' ls' T' H',ButY T0 D H H'->Lm T0 H'->Tab D m n scs us ws pl' ls' T' H'->Okt m n L T'->(∀i,i < m->T'.sd i < m->¬Ngv n T' i)->Q .non H')/\
 ∀T' i l H' ws2 us2,ButY T0 D H H'->Lm T0 H'->Okt m n L T'->i < m->T'.sd i < m->Ngv n T' i->(∀c,c < n->T'.ln i c<=0)->tq H H' l ws2 us2 (wts scs (cnt n T' i))->l≠D.pss->l≠D.ph->(∀xs,H l≠some (.lst xs))->Q (.ref l) H'
theorem scRef:FnScope ["table","below","at","line","column"] ["table"] (af sRef):= .of
theorem wq {f fS fL fW fT:Addr} {fd dS dL dW dT:FuncData} (F:Fun K "refuted" "refuted" sRef f fd) (B:Blt mg)
 (GS:FnOk P w K mg base CX0 2 fS dS ["table"] (jC (K:=K))) (kS:PySem.W.keepIn K (.ref fS)=true) (bS:Binds K dS ["table"] []) (mS:mg "slack_lines"=some (.ref fS))
 (GL:FnOk P w K mg base CX0 2 fL dL ["numbers","places"] (qg (K:=K) T0)) (kL:PySem.W.keepIn K (.ref fL)=true) (bL:Binds K dL ["numbers","places"] []) (mL:mg "least_by"=some (.ref fL))
 (GW:FnOk P w K mg base CX0 4 fW dW ["table","at"] (pO (K:=K))) (kW:PySem.W.keepIn K (.ref fW)=true) (bW:Binds K dW ["table","at"] []) (mW:mg "weights_against"=some (.ref fW))
 (GT:FnOk P w K mg base CX0 2 fT dT ["table","at","column"] (lX (K:=K))) (kT:PySem.W.keepIn K (.ref fT)=true) (bT:Binds K dT ["table","at","column"] []) (mT:mg "turn"=some (.ref fT)):
 FnOk P w K mg base CX0 5 f fd ["table"] (pY (K:=K) T0):=by
 refine F.okb scRef fun vs H Q E h=> ?_;refine hZq fun q_ e_=> ?_;obtain ⟨D,m,n,C,scs,us,ws,pl,ls,L,T,rfl,hk,hT,hW,hO,hLm,hn60,kn,kw⟩:=h;subst e_;refine ⟨rfl,fun cdv A outer s hr=> ?_⟩;have hr2:Room 2 _:=hr.mono (by decide)
 have hu50:(A.deeper (PyProof.Rows.envOfC (Str.ofString "refuted") (af sRef) s.heap.objs.size f cdv)).units+50 < cLine:=by have:=hr.units;omega
 have nd2:(["at","table"]:List Str).Nodup:=by decide +kernel
 have nd2':(["column","line"]:List Str).Nodup:=by decide +kernel
 refine ⟨_,ah (jH PassesOwn.never (dZ ii fun _=>rfl)
  (ac (eM (i:=1) (NC:= ["at","table"]) (mp:= [none,some 0]) rfl scRef.nd rfl rfl rfl (gE (K:=K) rfl (ai GS hr2 rfl mS kS bS .nil ax (a0 (pv 0) a9)))
   (fun _ _ _ _ _=>pgA 0 nd2) (fun _ _ _ _ _=>db (aG (vW hu50) (gH (r:=rSlL K) iR (am (r:=rIxL K) aq (ci (K:=K) rfl (pv 1) rfl) (pv 0) fun _ _=>rfl) (iW (cy bA ad)) iX) (bu (a0 ad (a0 ad a9))) (aA _))) (fun _ _ _ _ _=>pv 0))
  (ac (psA 2 scRef.nd (ai GL hr2 rfl mL kL bL .nil ax (a0 (aM (pv 0) rfl) (a0 (pv 1) a9))))
  (ac (cj (aG rj (pv 2) l6 (aA _)) (ah (az l6)) aU)
  (ac (psR 3 scRef.nd (am aq (aM (pv 0) rfl) (pv 2) fun _ _=>rfl))
  (ac (psA 4 scRef.nd (ai GL hr2 rfl mL kL bL .nil ax (a0 (aM (pv 0) rfl) (a0 (aV (NC:= ["column","line"]) (mp:= [none,some 3]) rfl (bP rfl B.ra (a0 (av ao rfl B.le PySem.boot_len (a0 (aM (pv 0) rfl) a9)) a9))
   (fun _ _ _ _ _=>pgA 0 nd2') (fun _ _ _ _ _=>db (aG eN (am (r:=rIxL K) aq (pv 1) (pv 0) fun _ _=>rfl) ad (aA _))) (fun _ _ _ _ _=>pv 0)) a9))))
  (ac (cj (aG rj (pv 4) l6 (aA _)) (ah (az (ai GW hr rfl mW kW bW .nil ax (a0 (pv 0) (a0 (pv 2) a9))))) aU)
  (ah (dc (ai GT hr2 rfl mT kT bT .nil ax (a0 (pv 0) (a0 (pv 2) (a0 (pv 4) a9))))))))))))),?_⟩
 have hL20:(20000:Nat)<=sizeLine:=by decide +kernel
 have m64:=hT.m64;have n64:=hT.n64;have fl:∀b pl,(flds D pl b).lookup (Str.ofString "lines")=some (.ref pl):=fun b pl=>rfl;obtain ⟨MM,eMM⟩:∃MM:Int,MM=(C:Int)+1:=⟨_,rfl⟩
 refine ⟨fun k σ H'=>(∃v1 v2 v3 v4,σ= [some (.ref D.a),v1,v2,v3,v4])/\∃pl' ls' T',ButY T0 D H H'/\Lm T0 H'/\Tab D m n scs us ws pl' ls' T' H'/\Okt m n L T'/\∃Tf rf qf J,Wg.Rn m n (Wg.V0 m L) (Wg.R0 L) MM Tf rf qf J/\Tf J=T'/\k=2^(m+n) - J,
  ⟨2^(m+n) - 0,⟨none,none,none,none,rfl⟩,pl,ls,T,fun x o _ _ _ _ e=>e,hLm,hT,hO,fun _=>T,fun _=>0,fun _=>0,0,⟨hO.inv,hO.pm,fun j hj=>absurd hj (Nat.not_lt_zero _),fun j hj=>absurd hj (Nat.not_lt_zero _)⟩,rfl,rfl⟩,?_⟩
 intro k σ H1 z_;refine hZq fun q_ e_=> ?_;obtain ⟨⟨v1,v2,v3,v4,rfl⟩,pl',ls',T',bY,hLm1,tb,O,Tf,rf,qf,J,Run,eT,rfl⟩:=z_;subst e_;refine ⟨true,rfl,iteT ?_⟩;refine ⟨_,fun σ' H' h=>h,?_⟩;obtain ⟨bb,bl⟩:=hW.bnd O.inv O.pm;have lenr:∀(p:Nat->Bool),((List.range m).filter p).length<=m:=fun p=>yC (yW _ _) (by rw [z7];exact yp _)
 have lenc:∀(p:Nat->Bool) (j:Nat),((List.range j).filter p).length<=j:=fun p j=>yC (yW _ _) (by rw [z7];exact yp _)
 refine dR ?_;refine cR rfl ?_;refine ⟨_,rfl,D,m,n,scs,us,ws,pl',ls',T',rfl,hk,tb,fun l H2 nl s1 hl=> ?_⟩;have tb1:=tb.same s1;refine ⟨l,rfl,⟨_,SqL.of hl⟩,fun L' nL=> ?_⟩;refine e9 (xs:=nv (slk m T')) (fun j acc H3=>Same H2 H3/\H3 L'=some (.lst acc)/\acc=nv (((slk m T').take j).filter fun x=>decide (Ngv n T' x))) ⟨aa nL,a8,rfl⟩ (fun j acc H3 p=>SqL.of (p.1 _ _ hl)) ?_ ?_
 . intro j x acc H3 hj ex z_;refine hZq fun q_ e_=> ?_;obtain ⟨s2,hL,rfl⟩:=z_;unfold nv at ex;rw [yo] at ex;obtain ⟨r,er,rfl⟩:=yw.mp ex;obtain ⟨rm,rs⟩:=slk_mem.mp (yq er);have tb2:=tb1.same s2;obtain ⟨q,eq,hq,_,_⟩:=tb2.ro.2 r rm;subst e_;have al:(((slk m T').take j).filter fun x=>decide (Ngv n T' x)).length<=m:=yC (yW _ _) (yC (List.length_take_le' _ _) (lenr _));refine ⟨_,rfl,D.a,D.C,D.dx,_,_,rfl,tb2.ob,hk.cls,hk.nl,fl _ _,_,rfl,pl',_,(r:Int),_,rfl,rfl,SqL.of tb2.li,aw eq,2,rfl,_,rfl,q,_,rfl,SqL.of hq,fun p np=> ?_⟩;rw [cut2];have sp:=aa (o:= .lst [.int (T'.ln r n), .int (T'.ln r (n+1))]) np;refine ⟨two,fun l2 nl2=> ?_⟩;have sl2:=aa (o:= .lst [.int 0, .int 0]) nl2;refine ⟨p,l2,_,_,rfl,rfl,sl2 _ _ a8,a8,_,rfl,?_⟩;by_cases z:Ngv n T' r
   . rw [show decide (T'.ln r n < 0\/(T'.ln r n=0/\T'.ln r (n+1) < 0))=true from decide_eq_true z];refine iteT ?_;refine ⟨_,rfl,CompN.mk hj (by unfold nv;rw [yi];omega) (sl2 _ _ (sp _ _ hL)) ⟨aF nL ((s2.trans sp).trans sl2),a8,?_⟩⟩
     rw [ay er,yZ];simp [z,nv]
   . rw [show decide (T'.ln r n < 0\/(T'.ln r n=0/\T'.ln r (n+1) < 0))=false from decide_eq_false z];refine iteF ?_;refine CompS.mk hj ⟨(s2.trans sp).trans sl2,sl2 _ _ (sp _ _ hL),?_⟩;rw [ay er,yZ];simp [z]
 rintro acc H3 ⟨s2,hL,rfl⟩;have lnv:(nv (slk m T')).length=(slk m T').length:=by unfold nv;rw [yi]
 rw [lnv,yO] at hL;have tb3:=tb1.same s2;have hLm3:=(hLm1.same s1).same s2;have bY3:ButY T0 D H H3:=bY.trans (.of_same (s1.trans s2));obtain ⟨bw,ebw⟩:∃bw,bw=(slk m T').filter fun x=>decide (Ngv n T' x):=⟨_,rfl⟩;rw [<-ebw] at hL;have mbw:∀x,x∈bw↔(x < m/\T'.sd x < m)/\Ngv n T' x:=fun x=>by rw [ebw,za,slk_mem,decide_eq_true_iff]
 refine ag ?_;refine ⟨_,rfl,D.a,D.C,D.dx,_,_,rfl,tb3.ob,hk.cls,hk.nd,rfl,_,rfl,D.pss,L',Wg.ls m fun i=>((T'.sd i:Nat):Int),bw,rfl,by rw [<-rD];exact SqL.of tb3.sd,SqL.of hL,fun x mx=>by rw [Wg.ls_len];exact ((mbw x).mp mx).1.1,hLm3,fun e0 H4 bt hLm4=> ?_,fun r mr lst H4 bt hLm4=> ?_⟩
 ·
  obtain ⟨ps0,hT0⟩:=hLm3.tbl;have tb4:=tb3.butT hT0 bt;refine ag ?_;refine ⟨_,rfl,rfl,_,rfl,?_⟩;rw [decide_eq_true rfl];refine iteT ?_;refine kn pl' ls' T' H4 (bY3.trans (.of_t bt)) hLm4 tb4 O fun i hi hs z=> ?_;have:=(mbw i).mpr ⟨⟨hi,hs⟩,z⟩;rw [e0] at this;cases this
 refine hZq fun q_ e_=> ?_;obtain ⟨ps0,hT0⟩:=hLm3.tbl;have tb4:=tb3.butT hT0 bt;have bY4:=bY3.trans (.of_t (D:=D) bt);obtain ⟨⟨hrm,hrs⟩,hneg⟩:=(mbw r).mp mr;obtain ⟨q,eq,hq,_,_⟩:=tb4.ro.2 r hrm;subst e_;refine ag ?_;dsimp only;refine bX (fun σ' H'=>H4=H'/\σ'= [some (.ref D.a),some (.ref L'),some (.int (r:Int)),v3,v4]) ?_ fun nx hnx=> ?_;rotate_left
 . refine ⟨_,rfl,rfl,_,rfl,?_⟩;rw [decide_eq_false (by intro z;cases z)]
   exact iteF (hnx _ _ ⟨rfl,rfl⟩)
 rintro σ' H' ⟨rfl,rfl⟩;refine ⟨_,rfl,D.a,D.C,D.dx,_,_,rfl,tb4.ob,hk.cls,hk.nl,fl _ _,_,rfl,pl',_,(r:Int),_,rfl,rfl,SqL.of tb4.li,aw eq,?_⟩;refine ag ?_;refine ⟨_,rfl,D.a,D.C,D.dx,_,_,rfl,tb4.ob,hk.cls,hk.nh,rfl,?_⟩;refine vC ?_;refine cR rfl ?_;refine ⟨_,rfl,D.a,D.C,D.dx,_,_,rfl,tb4.ob,hk.cls,hk.nh,rfl,D.ph,_,rfl, .inl (SqL.of tb4.hd),(n:Int),by rw [c7],by omega,by omega,fun L2 nL2=> ?_⟩
 refine kc (n:=n) (fun j acc H5=>Same H4 H5/\H5 L2=some (.lst acc)/\acc=nv ((List.range j).filter fun c=>decide (0 < T'.ln r c))) ⟨aa nL2,a8,rfl⟩ ?_ ?_
 . rintro c acc H5 hc ⟨s5,hL2,rfl⟩;rw [zr];refine ⟨_,rfl,_,rfl,q,_,(c:Int),_,rfl,rfl,SqL.of (s5 _ _ hq),aw (fA (by omega)),_,0,rfl,rfl,_,rfl,?_⟩
   by_cases z:0 < T'.ln r c
   . rw [decide_eq_true z];refine iteT ?_;refine ⟨_,rfl,CompN.mk hc (by unfold nv;rw [yi];have:=lenc (fun c=>decide (0 < T'.ln r c)) c;omega) hL2 ⟨aF nL2 s5,a8,?_⟩⟩
     rw [z9,yZ];simp [z,nv]
   . rw [decide_eq_false z];refine iteF ?_;refine CompS.mk hc ⟨s5,hL2,?_⟩;rw [z9,yZ];simp [z]
 intro acc H5 z_;refine hZq fun q_ e_=> ?_;obtain ⟨s5,hL2,rfl⟩:=z_;have tb5:=tb4.same s5;have hLm5:=hLm4.same s5;have bY5:=bY4.trans (.of_same (D:=D) (T0:=T0) s5);obtain ⟨pc,epc⟩:∃pc,pc=(List.range n).filter fun c=>decide (0 < T'.ln r c):=⟨_,rfl⟩;rw [<-epc] at hL2;have mpc:∀c,c∈pc↔c < n/\0 < T'.ln r c:=fun c=>by rw [epc,za,yX,decide_eq_true_iff]
 obtain ⟨ps1,hT1⟩:=hLm5.tbl;subst e_;refine ⟨D.ph,L2,Wg.ls n fun i=>((T'.hd i:Nat):Int),pc,rfl,by rw [<-rD];exact SqL.of tb5.hd,SqL.of hL2,fun x mx=>by rw [Wg.ls_len];exact ((mpc x).mp mx).1,hLm5,fun e0 H6 bt6 hLm6=> ?_,fun c mc lstc H6 bt6 hLm6=> ?_⟩
 ·
  have tb6:=tb5.butT hT1 bt6;refine ag ?_;refine ⟨_,rfl,rfl,_,rfl,?_⟩;rw [decide_eq_true rfl];refine iteT ?_;refine ⟨_,rfl,_,rfl,D,m,n,C,scs,us,ws,pl',ls',L,T',r,rfl,hk,tb6,hW,O,hrm,hrs,hn60,fun l2 H7 ws2 us2 nl2 s7 hw=> ?_⟩;have bY6:ButY T0 D H H6:=bY5.trans (.of_t bt6);refine kw T' r l2 H7 ws2 us2 (bY6.trans (.of_same s7)) (hLm6.same s7) O hrm hrs hneg (fun c hc=> ?_) hw (fun z=>by rw [z,tb6.sd] at nl2;cases nl2) (fun z=>by rw [z,tb6.hd] at nl2;cases nl2) fun xs z=> ?_
  . refine Classical.byContradiction fun y=> ?_;have:=(mpc c).mpr ⟨hc,by omega⟩
    rw [e0] at this;cases this
  . by_cases y0:l2=T0
    . subst y0;obtain ⟨ps2,hT2⟩:=hLm6.tbl;rw [hT2] at nl2;cases nl2
    . have:=bY6 l2 _ y0 (fun y=>by rw [y,hT.ob] at z;cases z) (fun y=>by rw [y,tb6.sd] at nl2;cases nl2) (fun y=>by rw [y,tb6.hd] at nl2;cases nl2) z
      rw [this] at nl2;cases nl2
 . have tb6:=tb5.butT hT1 bt6;obtain ⟨hcn,hcp⟩:=(mpc c).mp mc;refine ag ?_;dsimp only;refine bX (fun σ' H'=>H6=H'/\σ'= [some (.ref D.a),some (.ref L'),some (.int (r:Int)),some (.ref q),some (.int (c:Int))]) ?_ fun nx hnx=> ?_;rotate_left
   . refine ⟨_,rfl,rfl,_,rfl,?_⟩;rw [decide_eq_false (by intro z;cases z)]
     exact iteF (hnx _ _ ⟨rfl,rfl⟩)
   rintro σ' H' ⟨rfl,rfl⟩;refine ⟨_,rfl,_,rfl,_,rfl,D,m,n,scs,us,ws,pl',ls',T',r,c,rfl,hk,tb6,hrm,hcn,by omega,O.inv.pos,cr bb hW.big,fun a b ha hb=>cr (bl a b ha hb) hW.big,fun pl2 ls2 H7 bx tb7=> ?_⟩
   have vn:∀i,i < m->(Ngv n T' i↔Wg.val n MM T' i < 0):=fun i hi=>by
    unfold Ngv Wg.val;refine Wg.lex_neg ?_ (by omega)
    have:=bl i (n+1) hi (by omega)
    omega
   have S:Wg.Stp m n MM T' r c:=by
    refine ⟨hrm,hcn,hrs,(vn r hrm).mp hneg,fun i hi hs hv=> ?_,hcp,fun c' hc' hp'=> ?_⟩
    . have:=lst i ((mbw i).mpr ⟨⟨hi,hs⟩,(vn i hi).mpr hv⟩);rw [fZ hrm,fZ hi] at this;omega
    . have:=lstc c' ((mpc c').mpr ⟨hc',hp'⟩);rw [fZ hcn,fZ hc'] at this;omega
   subst eT;refine hZq fun q_ e_=> ?_;obtain ⟨Tf2,rf2,qf2,Run2,e2⟩:=Run.snoc S;subst e_;refine ⟨2^(m+n) - (J+1),Nat.sub_lt_sub_left Run.few (zF J),⟨_,_,_,_,rfl⟩,pl2,ls2,_,(bY5.trans (.of_t bt6)).trans (.of_x bx),hLm6.butX tb6 bx,tb7,⟨Wg.piv_inv O.inv hrm hcn (by omega),O.pm.piv hrm hcn,O.st.piv O.inv hrm hcn hrs (by omega)⟩,Tf2,rf2,qf2,J+1,Run2,e2,rfl⟩
end
end K45
namespace L2
open PySem PySem.Spec PyProof.Rows
theorem oJ {X:Cx} (hc:X.calm=true):ck X (.builtin "max") (fun xs H Q=>∃(p:Addr) (ns:List Int),xs= [.ref p]/\SqL X.K H p (ns.map V.int)/\0 < ns.length/\∀m,m∈ns->(∀x∈ns,x<=m)->Q (.int m) H):=by
 intro pins s σ H xs us Q I r h;obtain ⟨p,ns,e,hp,h0,q⟩:=h;subst e
 cases r with
 | @cons _ u _ _ r rr=>
  cases rr;cases (show u=Value.ref p from r);obtain ⟨its,rv,pl,_⟩:=I.list hp;have hi:=lB rv;obtain ⟨zs,ez⟩:=hi.allInts.items;have hl:=pl.isList;rw [ez] at hl
  have e3:zs.toList.map (·.1)=ns:=by
   rw [<-nums_intItems,<-ez];exact hi.numsOf
  have zl:zs.size=ns.length:=by rw [<-e3,yi,yP]
  have nat_:∀i,i < zs.size->ns[i]?=some (numAt zs i):=fun i hi'=>by
   rw [<-e3,yo,yQ];unfold numAt;rw [yV hi'];rfl
  refine max_intList (I.ok.hd hc) hl (by omega) fun v h' tk hv hk=> ?_
  obtain ⟨t,rfl⟩:=intItems_at hv;obtain ⟨b1,b2⟩:=argBest_gt (numAt zs) (zs.size - 1);generalize argBest (fun i j=>decide (numAt zs i > numAt zs j)) (zs.size - 1)=k at*;refine ⟨.int (numAt zs k),H,I.kept hk,⟨_,rfl⟩,q _ (yq (nat_ k (by omega))) fun x mx=> ?_⟩
  obtain ⟨j,hj,ej⟩:=zf mx;have:=nat_ j (by omega)
  rw [yj hj,ej] at this;rw [yF this];exact b2 j (by omega)
end L2
namespace Dj
open PySem PySem.Spec PyProof.Rows L2 Tre Wd Su
section
variable {X:Cx} {pos:Pos} {o i:Expr} {td ty:TE} {P:Program} {w:World} {K:PySem.W.Frag}
theorem call_sortJ (hP:X.prog=P) (hw:X.w=w) (hK:X.K=K) (hc:X.calm=true) (hu:X.A.units+60 < cLine):ck X (.builtin "sorted") (jG P w K):=by
 subst hP hw hK;exact jr hc hu
end
mutual
noncomputable def ktT:Tr->Tk.KT
 | .int i=> .lf (.inl i)
 | .str x=> .lf (.inr x)
 | .tup ts=> .tp (ktTs ts)
 |_=> .tp []
noncomputable def ktTs:List Tr->List Tk.KT
 | []=> []
 |t::ts=>ktT t::ktTs ts
end
noncomputable def ktL:Tr->List Tk.KT
 | .tup ts=>ktTs ts
 |_=> []
mutual
def Kp:Tr->Prop
 | .int _=>True
 | .str _=>True
 | .tup ts=>Kps ts
 |_=>False
def Kps:List Tr->Prop
 | []=>True
 |t::ts=>Kp t/\Kps ts
end
theorem uy {ts:List Tr} (h:∀t∈ts,Kp t):Kps ts:=by
 induction ts with
 |nil=>trivial
 |cons t ts ih=>exact ⟨h t yn,ih fun u m=>h u (ym _ m)⟩
theorem pe {t:Tr} (h:Ty .tm t):Kp t:=by
 generalize e:So.tm=k at h
 induction h with
 |nm x=>simp only [Kp,Kps,and_self]
 |ap x ts _ _ ih=>simp only [Kp,Kps,and_true,true_and];exact uy fun t m=>ih t m e
 |fr=>cases e
 |pr=>cases e
 |fl=>cases e
 |mo=>cases e
 |li=>cases e
 |no=>cases e
 |bo=>cases e
 |ei=>cases e
 |lt=>cases e
mutual
theorem wK:∀ {t u:Tr},Kp t->Kp u->ktT t=ktT u->t=u
 | .int i, .int j,_,_,e=>by simp only [ktT,Tk.KT.lf.injEq,Sum.inl.injEq] at e;rw [e]
 | .int i, .str y,_,_,e=>by simp [ktT] at e
 | .int i, .tup us,_,_,e=>by simp [ktT] at e
 | .str x, .int j,_,_,e=>by simp [ktT] at e
 | .str x, .str y,_,_,e=>by simp only [ktT,Tk.KT.lf.injEq,Sum.inr.injEq] at e;rw [e]
 | .str x, .tup us,_,_,e=>by simp [ktT] at e
 | .tup ts, .int j,_,_,e=>by simp [ktT] at e
 | .tup ts, .str y,_,_,e=>by simp [ktT] at e
 | .tup ts, .tup us,h1,h2,e=>by
  simp only [ktT,Tk.KT.tp.injEq] at e;rw [kts_inj h1 h2 e]
theorem kts_inj:∀ {ts us:List Tr},Kps ts->Kps us->ktTs ts=ktTs us->ts=us
 | [],[],_,_,_=>rfl
 | [],_::_,_,_,e=>by simp [ktTs] at e
 |_::_,[],_,_,e=>by simp [ktTs] at e
 |t::ts,u::us,h1,h2,e=>by
  simp only [ktTs,zJ] at e;rw [wK h1.1 h2.1 e.1,kts_inj h1.2 h2.2 e.2]
end
theorem jc {t u:Tr} (h1:Ty .tm t) (h2:Ty .tm u) (e:ktL t=ktL u):t=u:=by
 have k1:=pe h1;have k2:=pe h2;obtain ⟨ts,rfl⟩:=iK h1;obtain ⟨us,rfl⟩:=iK h2;rw [kts_inj k1 k2 e]
mutual
theorem wL:∀ {t:Tr},Kp t->(ktT t).depth=t.depth
 | .int i,_=>by simp [ktT,Tk.KT.depth,Tr.depth]
 | .str x,_=>by simp [ktT,Tk.KT.depth,Tr.depth]
 | .tup ts,k=>by
  simp only [ktT,Tk.KT.depth,Tr.depth];rw [kts_dep k]
theorem kts_dep:∀ {ts:List Tr},Kps ts->Tk.KTs.depth (ktTs ts)=Trs.depth ts
 | [],_=>by simp [ktTs,Tk.KTs.depth,Trs.depth]
 |t::ts,k=>by
  simp only [ktTs,Tk.KTs.depth,Trs.depth];rw [wL k.1,kts_dep k.2]
end
section
variable {K:PySem.W.Frag} {H:Hp}
mutual
theorem wJ:∀ {v:V} {t:Tr},Kp t->TrAt H v t->KVt K H v (ktT t)
 |v, .int i,_,h=>by unfold TrAt at h;simp only [ktT,KVt];exact h
 |v, .str x,_,h=>by unfold TrAt at h;simp only [ktT,KVt];exact h
 |v, .tup ts,k,h=>by
  unfold TrAt at h;obtain ⟨r,vs,e,h1,h2⟩:=h;simp only [ktT,KVt];exact ⟨r,vs,e, .inl h1,kvts_of k h2⟩
theorem kvts_of:∀ {vs:List V} {ts:List Tr},Kps ts->TrsAt H vs ts->KVts K H vs (ktTs ts)
 |vs,[],_,h=>by unfold TrsAt at h;simp only [ktTs,KVts];exact h
 |vs,t::ts,k,h=>by
  obtain ⟨v,r,e,h1,h2⟩:=h.inv;simp only [ktTs,KVts];exact ⟨v,r,e,wJ k.1 h1,kvts_of k.2 h2⟩
end
theorem key_tm {b:Addr} {t:Tr} (ty:Ty .tm t) (hd:t.depth<=7) (h:TrAt H (.ref b) t):KeyAt K H (ktL t) b:=by
 have kp:=pe ty;obtain ⟨ts,rfl⟩:=iK ty;unfold TrAt at h;obtain ⟨r,vs,e,h1,h2⟩:=h;cases e;refine ⟨vs, .inl h1,kvts_of kp h2,?_⟩;have:= @kts_dep ts kp;simp only [Tr.depth] at hd;simp only [ktL,Tk.KT.depth];omega
end
theorem tm_ref {H:Hp} {v:V} {t:Tr} (ty:Ty .tm t) (h:TrAt H v t):∃b,v= .ref b:=by
 obtain ⟨ts,rfl⟩:=iK ty;unfold TrAt at h;obtain ⟨r,vs,e,_⟩:=h;exact ⟨r,e⟩
theorem tm_hs {t:Tr} (h:Ty .tm t):Hs t:=by
 cases h<;>exact ⟨_,_,rfl⟩
def En (H:Hp) (g:Tr->Fr) (e:Ent) (t:Tr):Prop:=e.1=ktL t/\TrAt H (.ref e.2.1) t/\TrAt H e.2.2 (frT (g t))
structure DAt (P:Program) (w:World) (K:PySem.W.Frag) (H:Hp) (a:Addr) (ks:List Tr) (g:Tr->Fr):Prop where
 ex:∃kvs,DJ P w K H a kvs/\Paired (En H g) kvs ks
 ty:∀t∈ks,Ty .tm t/\t.depth<=7
 nd:ks.Nodup
section
variable {P:Program} {w:World} {K:PySem.W.Frag} {H H':Hp} {a:Addr} {ks:List Tr} {g:Tr->Fr}
theorem en_mono {kvs:List Ent} (k:Kd H H') (h:Paired (En H g) kvs ks):Paired (En H' g) kvs ks:=Paired.imp' (fun e t x=>⟨x.1,x.2.1.mono k,x.2.2.mono k⟩) h
theorem DAt.kd (x:DAt P w K H a ks g) (k:Kd H H') (hs:∀o,(∀xs,o≠ .lst xs)->H a=some o->H' a=some o):DAt P w K H' a ks g:=by
 obtain ⟨kvs,d,p⟩:=x.ex;exact ⟨⟨kvs,d.kd k (hs _ (fun _ z=>by cases z) d.at_),en_mono k p⟩,x.ty,x.nd⟩
theorem DAt.same (x:DAt P w K H a ks g) (s:Same H H'):DAt P w K H' a ks g:=x.kd (Kd.of_same s) fun o _ e=>s _ _ e
theorem en_val {kvs:List Ent} (h:Paired (En H g) kvs ks) (ty:∀t∈ks,Ty .tm t) {t:Tr} (tt:Ty .tm t):(t∈ks->∃v,valJ kvs (ktL t)=some v/\TrAt H v (frT (g t)))/\(t∉ks->valJ kvs (ktL t)=none):=by
 induction h with
 |nil=>exact ⟨fun m=>(by cases m),fun _=>rfl⟩
 | @cons e u es us h1 _ ih=>
  obtain ⟨i1,i2⟩:=ih fun x m=>ty x (ym _ m);by_cases z:u=t
  . subst z;exact ⟨fun _=>⟨e.2.2,gh h1.1,h1.2.2⟩,fun n=>absurd yn n⟩
  . have ne:¬e.1=ktL t:=fun q=>z (jc (ty u yn) tt (h1.1.symm.trans q));refine ⟨fun m=> ?_,fun n=> ?_⟩
    . rw [dm ne];rcases yx.mp m with e'|m
      . exact absurd e'.symm z
      . exact i1 m
    . rw [dm ne];exact i2 fun m=>n (ym _ m)
theorem DAt.val (x:DAt P w K H a ks g) {t:Tr} (tt:Ty .tm t):∃kvs,DJ P w K H a kvs/\kvs.length=ks.length/\(t∈ks->∃v,valJ kvs (ktL t)=some v/\TrAt H v (frT (g t)))/\(t∉ks->valJ kvs (ktL t)=none):=by
 obtain ⟨kvs,d,p⟩:=x.ex;exact ⟨kvs,d,Paired.length p,en_val p (fun t m=>(x.ty t m).1) tt⟩
open Classical in
noncomputable def addK (ks:List Tr) (t:Tr):List Tr:=if t∈ks then ks else ks++ [t]
theorem DAt.keys (x:DAt P w K H a ks g):∃kvs,DJ P w K H a kvs/\TrsAt H (kvs.map fun e=>V.ref e.2.1) ks:=by
 obtain ⟨kvs,d,p⟩:=x.ex;refine ⟨kvs,d,?_⟩;clear d x
 induction p with
 |nil=>exact .nil
 |cons h1 _ ih=>exact .cons h1.2.1 ih
end
end Dj
namespace K45
open PySem L2 Mth Tre Wd Su Tw Fm
theorem oK {X:Cx} {K:PySem.W.Frag} (hK:X.K=K):ck X (.builtin "len") (fun xs H Q=>∃p ys,xs= [.ref p]/\(SqL K H p ys\/SqT K H p ys)/\Q (.int (ys.length:Int)) H):=by
 subst hK;exact ao
theorem oT {r:R2} {ta tb:TE} {Z:Ends} {σ:L2.St} {H:Hp} (h:ta σ H fun x H1=>tb σ H1 fun y H2=>r x y H2 Z.rt):tRet (tOp r ta tb) Z σ H:=h
noncomputable def lno (m n:Nat) (T:Wg.Tb) (k c:Nat):Int:=(Wg.sumN m fun i=>if T.sd i=k then T.ln i c else 0)+if c < n/\T.hd c=k then T.bot else 0
theorem rK {m n:Nat} {T:Wg.Tb} (P:Wg.Pm m n T) {i c:Nat} (hi:i < m):lno m n T (T.sd i) c=T.ln i c:=by
 unfold lno;rw [Wg.sumN_one hi fun j hj hne=>if_neg fun e=>hne (P.inj hj hi e),if_pos rfl,if_neg fun z=>P.disj hi z.1 z.2.symm,Int.add_zero]
theorem gP {m n:Nat} {T:Wg.Tb} {k c:Nat} (h:∀i,i < m->T.sd i≠k):lno m n T k c=if c < n/\T.hd c=k then T.bot else 0:=by
 unfold lno;rw [Wg.sumN_zero fun i hi=>if_neg (h i hi),zr]
theorem rL {m n:Nat} {T:Wg.Tb} {k:Nat} {M:Int}:lno m n T k n*M+lno m n T k (n+1)=Wg.pt m n M T k:=by
 unfold lno;rw [if_neg (by omega),if_neg (by omega),Int.add_zero,Int.add_zero]
 unfold Wg.pt;rw [<-Wg.sumN_mulr,<-Wg.sumN_add];refine Wg.sumN_congr fun i hi=> ?_;unfold Wg.val;split<;>grind
theorem lx {m n C:Nat} {T:Wg.Tb} {k c:Nat} (P:Wg.Pm m n T) (hb:T.bot.natAbs<=C) (hl:∀i c,i < m->c < n+2->(T.ln i c).natAbs<=C) (hc:c < n+2):(lno m n T k c).natAbs<=C:=by
 by_cases h:∃i,i < m/\T.sd i=k
 . obtain ⟨i,hi,rfl⟩:=h;rw [rK P hi];exact hl i c hi hc
 . rw [gP fun i hi e=>h ⟨i,hi,e⟩];split
   . exact hb
   . exact yJ _
theorem t5 {n:Nat} {f:Nat->Int}:atI ((Wg.ls (n+2) f).map V.int) (-1)=some (.int (f (n+1))):=by
 have l:((Wg.ls (n+2) f).map V.int).length=n+2:=by rw [yi,Wg.ls_len]
 unfold atI
 have:ixN (n+2) (-1)=some (n+1):=by
  unfold ixN;rw [if_neg (by decide),if_pos (by omega)]
  congr 1;omega
 rw [l,this];exact fA (by omega)
theorem lQ {n:Nat} {f:Nat->Int}:atI ((Wg.ls (n+2) f).map V.int) (-2)=some (.int (f n)):=by
 have l:((Wg.ls (n+2) f).map V.int).length=n+2:=by rw [yi,Wg.ls_len]
 unfold atI
 have:ixN (n+2) (-2)=some n:=by
  unfold ixN;rw [if_neg (by decide),if_pos (by omega)]
  congr 1;omega
 rw [l,this];exact fA (by omega)
theorem rC {H:Hp}:∀ {ps:List Nat},TrsAt H (nv ps) (ps.map fun (p:Nat)=>Tr.int (p:Int))
 | []=> .nil
 |_::_=> .cons at_i rC
theorem tf {k:Nat}:∀ {ps:List Nat},((ps.map fun (p:Nat)=>Tr.int (p:Int)).any fun u=>Tre.eqT u (.int (k:Int)))=decide (k∈ps)
 | []=>by simp
 |p::r=>by
  rw [yG,List.any_cons,tf];unfold Tre.eqT;by_cases e:k=p
  . subst e;simp
  . have:((p:Int)==(k:Int))=false:=by
     rw [beq_eq_false_iff_ne];omega
    rw [this];simp [e]
theorem mem_ls {m:Nat} {f:Nat->Nat} {k:Nat}:k∈Wg.ls m f↔∃i,i < m/\f i=k:=by
 unfold Wg.ls;rw [yR];constructor
 . rintro ⟨i,hi,e⟩;exact ⟨i,yX.mp hi,e⟩
 . rintro ⟨i,hi,e⟩;exact ⟨i,yX.mpr hi,e⟩
section
variable {P:Program} {w:World} {K:PySem.W.Frag} {mg:Str->Option Value} {base:Heap} {T0:Addr}
def qe:Sp:=fun vs H Q _=>∃(D:TA) (m n:Nat) (scs:List Int) (us:List Tr) (ws:List V) (pl:Addr) (ls:List V) (T:Wg.Tb) (k:Nat),vs= [.ref D.a, .int (k:Int)]/\Tk K D.C/\Tab D m n scs us ws pl ls T H/\Wg.Pm m n T/\
 ∀q H',Same H H'->H' q=some (.lst ((Wg.ls (n+2) (lno m n T k)).map V.int))->Q (.ref q) H'
theorem xE:FnScope ["table","number"] ["table","number"] (af sLio):= .of
theorem ww {f:Addr} {fd:FuncData} (F:Fun K "line_of" "line_of" sLio f fd) (B:Blt mg):FnOk P w K mg base CX0 1 f fd ["table","number"] (qe (K:=K)):=by
 refine F.okb xE fun vs H Q E h=> ?_;refine hZq fun q_ e_=> ?_;obtain ⟨D,m,n,scs,us,ws,pl,ls,T,k,rfl,hk,hT,hP,q⟩:=h;subst e_;refine ⟨rfl,fun cdv A outer s hr=> ?_⟩;have hu50:(A.deeper (PyProof.Rows.envOfC (Str.ofString "line_of") (af sLio) s.heap.objs.size f cdv)).units+50 < cLine:=by have:=hr.units;omega
 have nd3:(["head","table","number"]:List Str).Nodup:=by decide +kernel
 refine ⟨_,ac (cj (aG (vX hu50) (pv 1) (aM (pv 0) rfl) (by with_unfolding_all rfl)) (ah (az (am aq (aM (pv 0) rfl) (ig PySem.F.plainAttrs_list PySem.F.slot_list_index PySem.F.type_list_index or (aM (pv 0) rfl) (a0 (pv 1) a9)) fun _ _=>rfl))) aU)
  (ah (az (ak cJ (aV (NC:= ["head","table","number"]) (mp:= [none,some 0,some 1]) rfl (aZ (aM (pv 0) rfl)) (fun _ _ _ _ _=>pgA 0 nd3) (fun _ _ _ _ _=>aS)
   (fun _ _ _ _ _=>dy (aG cD (pv 0) (pv 2) (aA _)) (ci (K:=K) rfl (pv 1) rfl) ad)) (bu (a0 ad (a0 ad a9)))))),?_⟩
 have hL20:(20000:Nat)<=sizeLine:=by decide +kernel
 have n64:=hT.n64
 have dep:∀u∈(Wg.ls m T.sd).map fun (p:Nat)=>Tr.int (p:Int),u.depth<=40:=fun u mu=>by
  obtain ⟨p,_,rfl⟩:=yR.mp mu;simp [Tr.depth]
 refine ⟨_,rfl,_,rfl,D.a,D.C,D.dx,_,_,rfl,hT.ob,hk.cls,hk.nd,rfl,D.pss,_,_, .int (k:Int),rfl, .inl hT.sd,rC,at_i,dep,by simp [Tr.pure],_,rfl,?_⟩
 rw [tf,nV];by_cases hm:k∈Wg.ls m T.sd
 . rw [decide_eq_true hm];refine iteT ?_;refine hZq fun q_ e_=> ?_;obtain ⟨i,hi,e⟩:=mem_ls.mp hm;obtain ⟨qr,eq,hq,_,_⟩:=hT.ro.2 i hi;subst e_;refine ⟨_,rfl,D.a,D.C,D.dx,_,_,rfl,hT.ob,hk.cls,hk.nl,rfl,_,rfl,D.a,D.C,D.dx,_,_,rfl,hT.ob,hk.cls,hk.nd,rfl, .inl ⟨rfl,_,SqL.of hT.sd⟩,_,rfl,D.pss,Wg.ls m fun i=>((T.sd i:Nat):Int),(k:Int),i,rfl,rfl,by rw [<-rD];exact hT.sd,by rw [Wg.ls_at hi,e],fun j hj=> ?_,?_⟩
   . rw [Wg.ls_at (by omega)]
     intro z;have z':T.sd j=k:=by have:=yF z;omega
     have:=hP.inj (i:=j) (j:=i) (by omega) hi (z'.trans e.symm)
     omega
   . refine ⟨pl,_,(i:Int),_,rfl,rfl,SqL.of hT.li,aw eq,?_⟩;refine q qr H (fun _ _ e=>e) ?_;rw [hq];have:Wg.ls (n+2) (T.ln i)=Wg.ls (n+2) (lno m n T k):=Wg.ls_congr fun c hc=>by rw [<-e,rK hP hi]
     rw [<-this]
 . rw [decide_eq_false hm];refine iteF (gi ?_);have hno:∀i,i < m->T.sd i≠k:=fun i hi e=>hm (mem_ls.mpr ⟨i,hi,e⟩);dsimp only;refine oT ?_;refine bV rfl ?_;refine ⟨_,rfl,D.a,D.C,D.dx,_,_,rfl,hT.ob,hk.cls,hk.nh,rfl,D.ph,rfl,⟨_,SqL.of hT.hd⟩,fun L nL=> ?_⟩;refine bU (xs:=nv (Wg.ls n T.hd)) (fun j acc H'=>Same H H'/\H' L=some (.lst acc)/\acc=(Wg.ls j (lno m n T k)).map V.int/\j<=n) ⟨aa nL,a8,rfl,yJ _⟩ (fun j acc H' p=>SqL.of (p.1 _ _ hT.hd)) ?_ ?_
   . rintro j x acc H' hj ex ⟨s2,hL,rfl,_⟩;have hj':=hj;rw [c7] at hj';rw [ij hj'] at ex;cases ex;have tb2:=hT.same s2
     have es:(Wg.ls (j+1) (lno m n T k)).map V.int=(Wg.ls j (lno m n T k)).map V.int++ [.int (lno m n T k j)]:=by
      unfold Wg.ls;rw [z9,yK,yK];rfl
     have al:((Wg.ls j (lno m n T k)).map V.int).length < sizeLine:=by rw [yi,Wg.ls_len];omega
     refine ⟨_,rfl,_,rfl,rfl,_,rfl,?_⟩;by_cases z:T.hd j=k
     . rw [decide_eq_true (show V.int (T.hd j:Nat)=V.int (k:Int) by rw [z])]
       refine iteT ?_;refine ⟨_,rfl,D.a,D.C,D.dx,_,_,rfl,tb2.ob,hk.cls,hk.nb,rfl,?_⟩;refine CompN.mk hj al hL ⟨aF nL s2,a8,?_,hj'⟩;rw [es,gP hno,if_pos ⟨hj',z⟩]
     . rw [decide_eq_false (show¬V.int (T.hd j:Nat)=V.int (k:Int) from fun e=>z (by have:=V.int.inj e;omega))]
       refine iteF ?_;refine CompN.mk hj al hL ⟨aF nL s2,a8,?_,hj'⟩;rw [es,gP hno,if_neg fun y=>z y.2]
   . rintro acc H2 ⟨s2,hL,rfl,_⟩;rw [c7] at hL;refine ⟨two,fun l2 nl2=> ?_⟩;have sl2:=aa (o:= .lst [.int 0, .int 0]) nl2;refine ⟨L,l2,_,_,rfl,rfl,sl2 _ _ hL,a8,by rw [yi,Wg.ls_len];show n+2<=sizeLine;omega,fun p np=> ?_⟩
     refine q p _ ((s2.trans sl2).trans (aa np)) ?_;rw [a8]
     have es:(Wg.ls (n+2) (lno m n T k)).map V.int=(Wg.ls n (lno m n T k)).map V.int++ [.int (lno m n T k n), .int (lno m n T k (n+1))]:=by
      unfold Wg.ls;rw [z9,z9,yK,yK,yK,yK,List.append_assoc];rfl
     rw [es,gP (c:=n) hno,gP (c:=n+1) hno,if_neg (by omega),if_neg (by omega)]
def Rwl (H:Hp) (ls:List V) (n k:Nat) (f:Nat->Nat->Int):Prop:=ls.length=k/\∀j,j < k->∃q,ls[j]?=some (.ref q)/\H q=some (.lst ((Wg.ls (n+2) (f j)).map V.int))
def pS:Sp:=fun vs H Q _=>∃(D:TA) (m n:Nat) (scs:List Int) (us:List Tr) (ws:List V) (pl:Addr) (ls:List V) (T:Wg.Tb),vs= [.ref D.a]/\Tk K D.C/\Tab D m n scs us ws pl ls T H/\Wg.Pm m n T/\
 ∀l ls' H',Same H H'->H' l=some (.lst ls')->Rwl H' ls' n n (fun j=>lno m n T (m+j))->Q (.ref l) H'
theorem xB:FnScope ["table"] ["table"] (af sTli):= .of
theorem wg {f fL:Addr} {fd dL:FuncData} (F:Fun K "term_lines" "term_lines" sTli f fd) (B:Blt mg)
 (GL:FnOk P w K mg base CX0 1 fL dL ["table","number"] (qe (K:=K))) (kL:PySem.W.keepIn K (.ref fL)=true) (bL:Binds K dL ["table","number"] []) (mL:mg "line_of"=some (.ref fL)):
 FnOk P w K mg base CX0 2 f fd ["table"] (pS (K:=K)):=by
 refine F.okb xB fun vs H Q E h=> ?_;refine hZq fun q_ e_=> ?_;obtain ⟨D,m,n,scs,us,ws,pl,ls,T,rfl,hk,hT,hP,q⟩:=h;subst e_;refine ⟨rfl,fun cdv A outer s hr=> ?_⟩;have nd2:(["number","table"]:List Str).Nodup:=by decide +kernel
 refine ⟨_,ah (az (aV (NC:= ["number","table"]) (mp:= [none,some 0]) rfl (bP rfl B.ra (a0 (av ao rfl B.le PySem.boot_len (a0 (aM (pv 0) rfl) a9)) a9)) (fun _ _ _ _ _=>pgA 0 nd2) (fun _ _ _ _ _=>aS)
  (fun _ _ _ _ _=>ai GL hr rfl mL kL bL .nil ax (a0 (pv 1) (a0 (ak aW (av (oK (K:=K) rfl) rfl B.le PySem.boot_len (a0 (ci (K:=K) rfl (pv 1) rfl) a9)) (pv 0)) a9))))),?_⟩
 have hL20:(20000:Nat)<=sizeLine:=by decide +kernel
 have n64:=hT.n64;have wl:=hT.tt.len;have ul:=hT.ul;have sl:=hT.sl;refine tH ?_;refine bV rfl ?_;refine ⟨_,rfl,D.a,D.C,D.dx,_,_,rfl,hT.ob,hk.cls,hk.nt,rfl,D.pt,_,rfl, .inl (SqL.of hT.tm),(n:Int),by rw [wl,ul],by omega,by omega,fun L nL=> ?_⟩
 refine gU (n:=n) (fun j acc H'=>Same H H'/\H' L=some (.lst acc)/\acc.length=j/\∀i,i < j->∃z,acc[i]?=some (.ref z)/\H' z=some (.lst ((Wg.ls (n+2) (lno m n T (m+i))).map V.int))/\z≠L) ⟨aa nL,a8,rfl,fun i hi=>absurd hi (Nat.not_lt_zero _)⟩ ?_ ?_
 . rintro j acc H' hj ⟨s2,hL,al,hz⟩;rw [zr];have tb2:=hT.same s2;refine ⟨_,rfl,_,rfl,D.a,D.C,D.dx,_,_,rfl,tb2.ob,hk.cls,hk.ns,rfl,D.psc,_,rfl, .inl (SqL.of tb2.sc),_,rfl,_,_,rfl,rfl,D,m,n,scs,us,ws,pl,ls,T,m+j,?_,hk,tb2,hP,fun z H3 s3 e3=> ?_⟩
   . rw [yi,sl];simp
   . have nz:z≠L:=fun y=>by
      have h1:=s3 _ _ hL;rw [y,h1] at e3;have e4:=HO.lst.inj (yF e3);have l4:=congrArg List.length e4
      have h0:∀i,acc[i]?≠some (V.int (lno m n T (m+j) i)):=fun i hi=>by
       have hij:i < j:=by rw [<-al];exact (yt.mp hi).1
       obtain ⟨z',a1,_⟩:=hz i hij;rw [a1] at hi;cases hi
      have:=h0 0;rw [e4,fA (by omega)] at this
      exact this rfl
     refine CompN.mk hj (by omega) (s3 _ _ hL) ⟨aF nL (s2.trans s3),a8,by rw [yI,al];rfl,fun i hi=> ?_⟩
     rcases Nat.lt_or_ge i j with h|h
     . obtain ⟨z',a1,a2,a3⟩:=hz i h;exact ⟨z',by rw [List.getElem?_append_left (by omega)];exact a1,by rw [ae a3];exact s3 _ _ a2,a3⟩
     . have e:i=j:=by omega
       subst e;exact ⟨z,by rw [List.getElem?_append_right (by omega),al];simp,by rw [ae nz];exact e3,nz⟩
 . rintro acc H2 ⟨s2,hL,al,hz⟩;refine q L acc H2 s2 hL ⟨al,fun j hj=> ?_⟩;obtain ⟨z,a1,a2,_⟩:=hz j hj;exact ⟨z,a1,a2⟩
theorem wI:lim < 2^8000:=Nat.pow_lt_pow_right (by decide) (by decide)
theorem big1 {C:Nat} {x:Int} (h:x.natAbs<=C+1) (hb:C < lim):Big x:=yM (yC h hb) wI
theorem tG {te:TE} {u:L2.TA} {Z:Ends} {σ:L2.St} {H:Hp} (h:te σ H fun v H1=>u σ H1 fun vs H2=>(v::vs).length<=sizeLine/\∀p,H2 p=none->Z.rt (.ref p) (upd H2 p (.tup (v::vs)))):tRet (tTup (i8 te u)) Z σ H:=h
def pU:Sp:=fun vs H Q _=>∃(D:TA) (m n C:Nat) (scs:List Int) (us:List Tr) (ws:List V) (pl:Addr) (ls:List V) (L:Nat->Nat->Int) (T:Wg.Tb),vs= [.ref D.a]/\Tk K D.C/\Tab D m n scs us ws pl ls T H/\Wb m n L scs C/\Okt m n L T/\
 ∀(t l:Addr) (H':Hp) (M:Int),Same H H'->H' t=some (.tup [.ref l, .int (T.bot*M)])->H' l=some (.lst ((Wg.ls n fun j=>Wg.pt m n M T (m+j)).map V.int))->1<=M->M<=(C:Int)+1->(∀i,i < m->T.sd i < m->0 < T.ln i n-> -(T.ln i (n+1) / T.ln i n)<=M)->Q (.ref t) H'
theorem scStr:FnScope ["table","parts","lines"] ["table"] (af sStr):= .of
theorem wj {f fS fL:Addr} {fd dS dL:FuncData} (F:Fun K "strict_point" "strict_point" sStr f fd) (B:Blt mg)
 (GS:FnOk P w K mg base CX0 2 fS dS ["table"] (jC (K:=K))) (kS:PySem.W.keepIn K (.ref fS)=true) (bS:Binds K dS ["table"] []) (mS:mg "slack_lines"=some (.ref fS))
 (GL:FnOk P w K mg base CX0 2 fL dL ["table"] (pS (K:=K))) (kL:PySem.W.keepIn K (.ref fL)=true) (bL:Binds K dL ["table"] []) (mL:mg "term_lines"=some (.ref fL)):
 FnOk P w K mg base CX0 3 f fd ["table"] (pU (K:=K)):=by
 refine F.okb scStr fun vs H Q E h=> ?_;refine hZq fun q_ e_=> ?_;obtain ⟨D,m,n,C,scs,us,ws,pl,ls,L,T,rfl,hk,hT,hW,hO,k⟩:=h;subst e_;refine ⟨rfl,fun cdv A outer s hr=> ?_⟩;have nd2:(["at","table"]:List Str).Nodup:=by decide +kernel
 have nd2':(["line","parts"]:List Str).Nodup:=by decide +kernel
 refine ⟨_,ac (psR 1 scStr.nd (av (oJ rfl) rfl B.ma PyProof.Rows.boot_max (a0 (ak cJ (bu (a0 ad a9)) (aV (NC:= ["at","table"]) (mp:= [none,some 0]) rfl (gE (K:=K) rfl (ai GS hr rfl mS kS bS .nil ax (a0 (pv 0) a9)))
  (fun _ _ _ _ _=>pgA 0 nd2) (fun _ _ _ _ _=>db (aG eN (am (r:=rIxL K) aq (am (r:=rIxL K) aq (ci (K:=K) rfl (pv 1) rfl) (pv 0) fun _ _=>rfl) (cy bA ad) fun _ _=>rfl) ad (aA _)))
  (fun _ _ _ _ _=>cy bA (ak cU (am (r:=rIxL K) aq (am (r:=rIxL K) aq (ci (K:=K) rfl (pv 1) rfl) (pv 0) fun _ _=>rfl) (cy bA ad) fun _ _=>rfl) (am (r:=rIxL K) aq (am (r:=rIxL K) aq (ci (K:=K) rfl (pv 1) rfl) (pv 0) fun _ _=>rfl) (cy bA ad) fun _ _=>rfl))))) a9)))
  (ac (psA 2 scStr.nd (ai GL hr rfl mL kL bL .nil ax (a0 (pv 0) a9)))
  (ah (az (aK (a0 (aV (NC:= ["line","parts"]) (mp:= [none,some 1]) rfl (aZ (pv 2)) (fun _ _ _ _ _=>pgA 0 nd2') (fun _ _ _ _ _=>aS)
   (fun _ _ _ _ _=>ak aW (ak aO (am (r:=rIxL K) aq (pv 0) (cy bA ad) fun _ _=>rfl) (pv 1)) (am (r:=rIxL K) aq (pv 0) (cy bA ad) fun _ _=>rfl)))
   (a0 (ak aO (aM (pv 0) rfl) (pv 1)) a9)))))),?_⟩
 have hL20:(20000:Nat)<=sizeLine:=by decide +kernel
 have m64:=hT.m64;have n64:=hT.n64;have fl:∀b pl,(flds D pl b).lookup (Str.ofString "lines")=some (.ref pl):=fun b pl=>rfl;obtain ⟨bb,bl⟩:=hW.bnd hO.inv hO.pm;have lenr:∀(p:Nat->Bool),((List.range m).filter p).length<=m:=fun p=>yC (yW _ _) (by rw [z7];exact yp _)
 refine ⟨(by show 1<=sizeLine;decide),fun l1 nl1=> ?_⟩
 have sl1:=aa (o:= .lst [.int 1]) nl1;refine cR rfl ?_;have tb1:=hT.same sl1;refine ⟨_,rfl,D,m,n,scs,us,ws,pl,ls,T,rfl,hk,tb1,fun l H2 nl s2 hl=> ?_⟩;have tb2:=tb1.same s2;refine ⟨l,rfl,⟨_,SqL.of hl⟩,fun L' nL=> ?_⟩;refine e9 (xs:=nv (slk m T)) (fun j acc H3=>Same H2 H3/\H3 L'=some (.lst acc)/\acc=((((slk m T).take j).filter fun x=>decide (0 < T.ln x n)).map fun x=> -(T.ln x (n+1) / T.ln x n)).map V.int) ⟨aa nL,a8,rfl⟩ (fun j acc H3 p=>SqL.of (p.1 _ _ hl)) ?_ ?_
 . intro j x acc H3 hj ex z_;refine hZq fun q_ e_=> ?_;obtain ⟨s3,hL,rfl⟩:=z_;unfold nv at ex;rw [yo] at ex;obtain ⟨r,er,rfl⟩:=yw.mp ex;obtain ⟨rm,rs⟩:=slk_mem.mp (yq er);have tb3:=tb2.same s3;obtain ⟨q,eq,hq,_,_⟩:=tb3.ro.2 r rm;subst e_;have al:(((slk m T).take j).filter fun x=>decide (0 < T.ln x n)).length<=m:=yC (yW _ _) (yC (List.length_take_le' _ _) (lenr _));refine ⟨_,rfl,D.a,D.C,D.dx,_,_,rfl,tb3.ob,hk.cls,hk.nl,fl _ _,_,rfl,pl,_,(r:Int),_,rfl,rfl,SqL.of tb3.li,aw eq,2,rfl,q,_,-2,_,rfl,rfl,SqL.of hq,lQ,_,0,rfl,rfl,_,rfl,?_⟩;by_cases z:0 < T.ln r n
   . rw [decide_eq_true z];refine iteT ?_;refine ⟨_,rfl,D.a,D.C,D.dx,_,_,rfl,tb3.ob,hk.cls,hk.nl,fl _ _,_,rfl,pl,_,(r:Int),_,rfl,rfl,SqL.of tb3.li,aw eq,1,rfl,q,_,-1,_,rfl,rfl,SqL.of hq,t5,_,rfl,D.a,D.C,D.dx,_,_,rfl,tb3.ob,hk.cls,hk.nl,fl _ _,_,rfl,pl,_,(r:Int),_,rfl,rfl,SqL.of tb3.li,aw eq,2,rfl,q,_,-2,_,rfl,rfl,SqL.of hq,lQ,_,_,rfl,rfl,⟨z,cr (bl r n rm (by omega)) hW.big⟩,_,rfl,?_⟩
     refine CompN.mk hj (by rw [yi,yi];omega) hL ⟨aF nL s3,a8,?_⟩
     rw [ay er,yZ];simp [z]
   . rw [decide_eq_false z];refine iteF ?_;refine CompS.mk hj ⟨s3,hL,?_⟩;rw [ay er,yZ];simp [z]
 rintro acc H3 ⟨s3,hL,rfl⟩;have lnv:(nv (slk m T)).length=(slk m T).length:=by unfold nv;rw [yi]
 rw [lnv,yO] at hL;obtain ⟨ms,ems⟩:∃ms:List Int,ms=((slk m T).filter fun x=>decide (0 < T.ln x n)).map fun x=> -(T.ln x (n+1) / T.ln x n):=⟨_,rfl⟩;rw [<-ems] at hL
 have msl:ms.length<=m:=by
  rw [ems,yi];exact yC (yW _ _) (lenr _)
 refine ⟨l1,L',_,_,rfl,rfl,s3 _ _ (s2 _ _ a8),hL,by rw [yi];show 1+ms.length<=sizeLine;omega,fun p np=> ?_⟩
 have sp:=aa (o:= .lst ([.int 1]++ms.map V.int)) np;refine ⟨p,1::ms,rfl,SqL.of a8,by simp,fun M hM hMx=> ?_⟩
 have M1:1<=M:=hMx 1 yn
 have MC:M<=(C:Int)+1:=by
  rcases yx.mp hM with e|e
  . rw [e];omega
  . rw [ems] at e;obtain ⟨x,hx,rfl⟩:=yR.mp e;rw [za,slk_mem] at hx;have h1:=bl x (n+1) hx.1.1 (by omega)
    have h2:=cA (T.ln x (n+1)) (T.ln x n);omega
 have MP:∀i,i < m->T.sd i < m->0 < T.ln i n-> -(T.ln i (n+1) / T.ln i n)<=M:=fun i hi hs hp=>by
  refine hMx _ (ym _ ?_);rw [ems];refine yR.mpr ⟨i,?_,rfl⟩;rw [za,slk_mem];exact ⟨⟨hi,hs⟩,decide_eq_true hp⟩
 have MB:Big M:=big1 (C:=C) (by omega) hW.big
 have sA:=((sl1.trans s2).trans s3).trans sp;have tb4:=hT.same sA;refine ag ?_;refine ⟨_,rfl,D,m,n,scs,us,ws,pl,ls,T,rfl,hk,tb4,hO.pm,fun l2 ls2 H5 s5 hl2 hrw=> ?_⟩;have tb5:=tb4.same s5;refine ag ?_;dsimp only;refine tG ?_;refine bV rfl ?_;refine ⟨_,rfl,l2,rfl,⟨_,SqL.of hl2⟩,fun L2 nL2=> ?_⟩;refine bU (xs:=ls2) (fun j acc H6=>Same H5 H6/\H6 L2=some (.lst acc)/\acc=(Wg.ls j fun j=>Wg.pt m n M T (m+j)).map V.int/\j<=n) ⟨aa nL2,a8,rfl,yJ _⟩ (fun j acc H6 p=>SqL.of (p.1 _ _ hl2)) ?_ ?_
 . intro j x acc H6 hj ex z_;refine hZq fun q_ e_=> ?_;obtain ⟨s6,hL2,rfl,_⟩:=z_;rw [hrw.1] at hj;obtain ⟨q,eq,hq⟩:=hrw.2 j hj;subst e_;rw [eq] at ex;cases ex;have hq6:=s6 _ _ hq;have b1:=lx (k:=m+j) (c:=n) hO.pm bb bl (by omega)
   refine ⟨_,rfl,2,rfl,q,_,-2,_,rfl,rfl,SqL.of hq6,lQ,_,rfl,_,_,rfl,rfl,⟨cr b1 hW.big,MB⟩,_,rfl,1,rfl,q,_,-1,_,rfl,rfl,SqL.of hq6,t5,_,_,rfl,rfl,?_⟩;show CompN _ _ _ _ _ (V.int (lno m n T (m+j) n*M+lno m n T (m+j) (n+1))) H6;rw [rL];refine CompN.mk (by rw [hrw.1];exact hj) (by rw [yi,Wg.ls_len];omega) hL2 ⟨aF nL2 s6,a8,?_,hj⟩
   unfold Wg.ls;rw [z9,yK,yK];rfl
 . rintro acc H6 ⟨s6,hL2,rfl,_⟩;rw [hrw.1] at hL2;have tb6:=tb5.same s6;refine ⟨_,rfl,D.a,D.C,D.dx,_,_,rfl,tb6.ob,hk.cls,hk.nb,rfl,_,rfl,_,_,rfl,rfl,⟨cr bb hW.big,MB⟩,two,fun t nt=> ?_⟩;have st:=aa (o:= .tup [.ref L2, .int (T.bot*M)]) nt;exact k t L2 _ M (((sA.trans s5).trans s6).trans st) a8 (st _ _ hL2) M1 MC MP
def pZ:Sp:=fun vs H Q _=>∃(D:TA) (m n:Nat) (scs:List Int) (us:List Tr) (ws:List V) (pl:Addr) (ls:List V) (T:Wg.Tb) (t l:Addr) (b:Int) (tp:Nat->Int),vs= [.ref D.a, .ref t]/\Tk K D.C/\Tab D m n scs us ws pl ls T H/\H t=some (.tup [.ref l, .int b])/\H l=some (.lst ((Wg.ls n tp).map V.int))/\0 < b/\Big b/\us.Nodup/\(∀u∈us,Ty .tm u/\u.depth<=7)/\
 ∀(d:Addr) (H':Hp) (G:Tr->Fr),H d=none->Same H H'->Dj.DAt P w K H' d us G->(∀j u,us[j]?=some u->G u=(fx (tp j) b,fy (tp j) b))->Q (.ref d) H'
theorem scNua:FnScope ["table","point","tops","bottom"] ["table","point"] (af sNua):= .of
theorem wu {f fF:Addr} {fd dF:FuncData} (F:Fun K "numbers_at" "numbers_at" sNua f fd) (B:Blt mg)
 (GF:FnOk P w K mg base CX0 2 fF dF ["top","bottom"] lZ) (kF:PySem.W.keepIn K (.ref fF)=true) (bF:Binds K dF ["top","bottom"] []) (mF:mg "fraction"=some (.ref fF)):
 FnOk P w K mg base CX0 3 f fd ["table","point"] (pZ (P:=P) (w:=w) (K:=K)):=by
 refine F.okb scNua fun vs H Q E h=> ?_;refine hZq fun q_ e_=> ?_;obtain ⟨D,m,n,scs,us,ws,pl,ls,T,t,l,b,tp,rfl,hk,hT,ht,hl,hb,bb,nd,hus,k⟩:=h;subst e_;refine ⟨rfl,fun cdv A outer s hr=> ?_⟩;have hu1:(A.deeper (PyProof.Rows.envOfC (Str.ofString "numbers_at") (af sNua) s.heap.objs.size f cdv)).units+30 < cLine:=by have:=hr.units;omega
 have nd3:(["term","top","bottom"]:List Str).Nodup:=by decide +kernel
 refine ⟨_,ac (e5 (pv 1) (be (n:=2) rfl (aj (pgA 2 scNua.nd) (aj (iZ (i:=3) scNua.nd rfl (Or.inr rfl) (Or.inl rfl)) aP))))
  (ah (az (Dj.pe_compJ (NC:= ["term","top","bottom"]) (mp:= [none,none,some 3]) (g:=gTup K 2 (bf (aL 0) (bf (aL 1) gNil))) rfl hu1 (iY (k:= .lst) rfl B.zi (a0 (aM (pv 0) rfl) (a0 (pv 2) a9)))
   (fun _ _ _ _ _=>be (n:=2) rfl (aj (pgA 0 nd3) (aj (pgA 1 nd3) aP))) (fun _ _ _ _ _=>aS)
   (fun _ _ _ _ _=>pv 0) (fun _ _ _ _ _=>ai GF hr rfl mF kF bF .nil ax (a0 (pv 1) (a0 (pv 2) a9)))))),?_⟩
 have hL20:(20000:Nat)<=sizeLine:=by decide +kernel
 have n64:=hT.n64;have wl:=hT.tt.len;have ul:=hT.ul;obtain ⟨G,eG⟩:∃G:Tr->Fr,G=fun u=>(fx (tp (Fm.ix us u)) b,fy (tp (Fm.ix us u)) b):=⟨_,rfl⟩;have hG:∀j u,us[j]?=some u->G u=(fx (tp j) b,fy (tp j) b):=fun j u e=>by rw [eG];show (fx (tp (Fm.ix us u)) b,_)=_;rw [Fm.ix_eq nd e]
 refine ⟨_,rfl,t,_,rfl,SqT.of ht,rfl,_,_,rfl,_,_,rfl,rfl,?_⟩;dsimp only;refine Dj.comp_zipJ (P:=P) (w:=w) (K:=K) (xs:=ws) (ys:=(Wg.ls n tp).map V.int) (rest:= [some (.int b)]) (a:=D.pt) (b:=l) rfl (by rw [yi,Wg.ls_len];omega) (fun Q q=>⟨_,rfl,D.a,D.C,D.dx,_,_,rfl,hT.ob,hk.cls,hk.nt,rfl,_,rfl,q⟩) (SqL.of hT.tm) (SqL.of hl) fun d nd'=> ?_
 refine ⟨fun j acc H'=>Same H H'/\Dj.DJ P w K H' d acc/\Paired (Dj.En H' G) acc (us.take j),⟨aa nd',⟨a8,fun p m=>(by cases m)⟩,by rw [zg];exact .nil⟩,fun j acc H' p=>⟨SqL.of (p.1 _ _ hT.tm),SqL.of (p.1 _ _ hl)⟩,?_,?_⟩
 . rintro j T' x y acc H' hj ⟨s2,hD,hP⟩ ex ey nT;have jn:j < n:=by omega
   rw [fA jn] at ey;cases ey;refine hZq fun q_ e_=> ?_;obtain ⟨u,eu,hu⟩:=hT.tt.get' ex;obtain ⟨ty,dp⟩:=hus u (yq eu);obtain ⟨b',rfl⟩:=Dj.tm_ref ty hu;subst e_;have sT:=aa (o:= .tup [.ref b', .int (tp j)]) nT;refine ⟨_,rfl,b',Dj.ktL u,rfl,?_⟩;refine ⟨_,rfl,_,rfl,tp j,b,rfl,hb,bb,fun q nq=> ?_⟩;have sq:=aa (o:= .tup [.int (fx (tp j) b), .int (fy (tp j) b)]) nq;have hu3:=hu.mono (Kd.of_same ((s2.trans sT).trans sq));have hD3:Dj.DJ P w K (upd (upd H' T' (.tup [.ref b', .int (tp j)])) q (.tup [.int (fx (tp j) b), .int (fy (tp j) b)])) d acc:=hD.kd (Kd.of_same (sT.trans sq)) ((sT.trans sq) _ _ hD.at_);have hP3:=Dj.en_mono (Kd.of_same (sT.trans sq)) hP
   have hv:TrAt (upd (upd H' T' (.tup [.ref b', .int (tp j)])) q (.tup [.int (fx (tp j) b), .int (fy (tp j) b)])) (.ref q) (frT (G u)):=by
    rw [hG j u eu];exact di a8 at_i at_i
   have key:=Dj.key_tm ty dp hu3 (K:=K);have pl':=Paired.length hP;rw [yS] at pl'
   have hno:u∉us.take j:=fun m=>by
    obtain ⟨i,hi,e⟩:=zf m;rw [yS] at hi;rw [List.getElem_take] at e;have:=rG nd eu (show us[i]?=some u by rw [yj (by omega),e])
    omega
   have e0:=(Dj.en_val hP3 (fun t m=>(hus t (zG m)).1) ty).2 hno
   have ep:Dj.putJ acc (Dj.ktL u) b' (.ref q)=acc++ [(Dj.ktL u,b', .ref q)]:=by
    unfold Dj.putJ;rw [e0,if_neg (by simp)]
   refine Dj.CompJ.mk (by omega) (by omega) hD3 key ⟨?_,hD3.put key,?_⟩
   . intro x o e;have:=((s2.trans sT).trans sq) _ _ e;rw [ae (fun z=>by rw [z,nd'] at e;cases e)]
     exact this
   . rw [ep,ay eu];have kd:=Dj.Kd.updJ (o:=Dj.dJ P w d (acc++ [(Dj.ktL u,b', .ref q)])) hD3.at_;exact Paired.snoc (Dj.en_mono kd hP3) ⟨rfl,hu3.mono kd,hv.mono kd⟩
 . rintro acc H2 ⟨s2,hD,hP⟩;rw [wl,yO] at hP;exact k d H2 G nd' s2 ⟨⟨acc,hD,hP⟩,hus,nd⟩ hG
end
end K45
namespace L2
open PySem PySem.Spec PyProof.Rows
theorem ext3 {o p q:Option V} {r:St}:Ext (none::none::none::r) (o::p::q::r)
 |0,v,e=>by cases (yF (show some (none:Option V)=some (some v) from e))
 |1,v,e=>by cases (yF (show some (none:Option V)=some (some v) from e))
 |2,v,e=>by cases (yF (show some (none:Option V)=some (some v) from e))
 |j+3,v,e=>e
theorem lJ {K:PySem.W.Frag} {a:Addr} {mp:List (Option Nat)} {tl:TE} {g:TG} {tc:TT} {te:TE} {Q:VK} {σ:L2.St} {H H1:Hp} {xs:List V}
 (ha:∀Q:VK,Q (.ref a) H1->tl σ H Q) (h1:SqL K H1 a xs)
 (h:∀D,H1 D=none->∃Pv:Nat->List V->Hp->Prop,Pv 0 [] (upd H1 D (.lst []))/\(∀i acc H,Pv i acc H->SqL K H a xs)/\
  (∀i z acc H,i < xs.length->Pv i acc H->xs[i]?=some z->g z (subS mp σ) H fun σ4 H4=>Ext (subS mp σ) σ4/\tc σ4 H4 fun b H5=>if b=true then te σ4 H5 (CompN xs.length i D acc Pv) else CompS xs.length i acc Pv H5)/\∀acc H,Pv xs.length acc H->Q (.ref D) H):
 cu mp (mZ K tl) g tc te σ H Q:=by
 unfold cu;refine ha _ ⟨a,rfl,⟨xs,h1⟩,fun D nD=> ?_⟩;obtain ⟨Pv,p0,pq,ps,pd⟩:=h D nD;refine ⟨fun i m acc H=>m=xs.length - i/\i<=xs.length/\Pv i acc H,⟨xs.length,by simp,yJ _,p0⟩,?_⟩
 rintro i m acc H ⟨rfl,hi,p⟩;have q1:=pq i acc H p;by_cases hlt:i < xs.length
 . refine .inr ⟨⟨xs,xs[i],q1,by simp [hlt]⟩,?_⟩
   rintro v H' ⟨rfl,y⟩;exact ps i v acc _ hlt p (y xs q1)
 . have ei:i=xs.length:=by omega
   subst ei;exact .inl ⟨⟨xs,q1,yp _⟩,pd acc H p⟩
end L2
namespace K45
open PySem L2 Mth Tre Wd Su Tw Fm
theorem jA {sp:Sp} {dvs:List V} {E:XK} {r:R2} {ta tb:TE} {i:Nat} {u:TS} {Z:Ends} {σ:L2.St} {H:Hp} (h:ta σ H fun x H1=>tb σ H1 fun y H2=>r x y H2 fun v H3=>sp ([v]++dvs) H3 (fun x H4=>aL i x σ H4 (u Z)) E):tSeq (tAsg (uW sp dvs E (i8 (tOp r ta tb) tNil)) (aL i)) u Z σ H:=h
theorem pi {r:R2} {ta tb:TE} {σ:L2.St} {H:Hp} {Q:List V->Hp->Prop} (h:ta σ H fun x H1=>tb σ H1 fun y H2=>r x y H2 fun v H3=>Q [v] H3):i8 (tOp r ta tb) tNil σ H Q:=h
structure Bnd where
 ps:List Pq
 lim:Fr
 st:Bool
noncomputable def bdT (b:Bnd):Tr:= .tup [sumT b.ps,frT b.lim, .bl b.st]
theorem eh {H:Hp} {v:V} {a b c:Tr} (h:TrAt H v (.tup [a,b,c])):∃r x y z,v= .ref r/\H r=some (.tup [x,y,z])/\TrAt H x a/\TrAt H y b/\TrAt H z c:=by
 obtain ⟨r,vs,rfl,hr,hT⟩:=at_t h;obtain ⟨x,r1,rfl,h1,h2⟩:=hT.inv;obtain ⟨y,r2,rfl,h3,h4⟩:=h2.inv;obtain ⟨z,r3,rfl,h5,h6⟩:=h4.inv;unfold TrsAt at h6;subst h6;exact ⟨r,x,y,z,rfl,hr,h1,h3,h5⟩
noncomputable def scl (b:Bnd):Int:=lcmF 1 (b.ps.map (·.2)++ [b.lim])
noncomputable def rowF (us:List Tr) (b:Bnd) (c:Nat):Int:=
 if c < us.length then -(cw (scl b) (us.getD c .non) b.ps) else if c=us.length then wh b.lim (scl b) else if b.st then -1 else 0
noncomputable def Lf (bs:List Bnd) (us:List Tr) (i:Nat):Nat->Int:=rowF us (bs.getD i ⟨[],(0,1),false⟩)
theorem tW {us:List Tr} {b:Bnd} {n:Nat} (h:us.length=n):Wg.ls (n+2) (rowF us b)=((us.map fun t=>cw (scl b) t b.ps).map fun x=> -x)++ [wh b.lim (scl b),if b.st then -1 else 0]:=by
 subst h;unfold Wg.ls;rw [z9,z9,List.append_assoc,yK];congr 1
 . refine zQ fun i=> ?_;rw [yo,yo,yo];by_cases hi:i < us.length
   . rw [List.getElem?_range hi,yj hi];simp only [Option.map_some,Option.some.injEq];unfold rowF;rw [if_pos hi,yv,yj hi];rfl
   . rw [zb (by rw [z7];omega),zb (by omega)]
     rfl
 . show [rowF us b us.length,rowF us b (us.length+1)]=_;unfold rowF;rw [if_neg (by omega),if_pos rfl,if_neg (by omega),if_neg (by omega)]
structure Bz (bs:List Bnd) (X Y S k C:Nat):Prop where
 ps:∀b∈bs,b.ps.length<=k/\(∀p∈b.ps,p.2.1.natAbs<=X/\p.2.2.natAbs<=Y)/\b.lim.1.natAbs<=X/\b.lim.2.natAbs<=Y
 sc:∀b∈bs,(scl b).natAbs<=S
 y1:1<=Y
 xs:1<=X*S
 yb:Y^(k+2) < 2^8000
 cc:Wg.fac bs.length*(X*S)^bs.length<=C
 s1:S<=C
 c1:1<=C
 big:C < lim
structure Gbd (T:List Tr) (e:Nat) (b:Bnd):Prop where
 asc:Asc b.ps
 ps:∀p∈b.ps,Gm T p.1/\Gq e p
 lim:Gf e b.lim
 sh:Sh b.lim
theorem oj {Y a b:Nat} (hY:1<=Y) (h:a<=b):Y^a<=Y^b:=Nat.pow_le_pow_right hY h
theorem Gbd.scl_ok {T:List Tr} {e:Nat} {b:Bnd} (g:Gbd T e b):0 < scl b/\(∀p∈b.ps,p.2.2∣scl b)/\b.lim.2∣scl b:=by
 have h:∀f∈b.ps.map (·.2)++ [b.lim],0 < f.2/\f.2.natAbs<=(((b.ps.map (·.2)++ [b.lim]).map fun f:Fr=>f.2.natAbs).foldr max 0):=by
  intro f mf;refine ⟨?_,?_⟩
  . rcases yN.mp mf with m|m
    . obtain ⟨p,mp,rfl⟩:=yR.mp m;exact (g.ps p mp).2.gf.pos
    . rw [yD.mp m];exact g.lim.pos
  . generalize b.ps.map (·.2)++ [b.lim]=fs at mf;clear g
    induction fs with
    |nil=>cases mf
    |cons x r ih=>
     rw [yG,List.foldr_cons];rcases yx.mp mf with rfl|mf
     . exact Nat.le_max_left _ _
     . exact yC (ih mf) (Nat.le_max_right _ _)
 obtain ⟨a1,a2,a3,_⟩:=g6 (s:=1) (by decide) h
 refine ⟨a1,fun p mp=>a3 p.2 (zq _ (yR.mpr ⟨p,mp,rfl⟩)),a3 _ (yB _ yn)⟩
theorem Bz.wb {bs:List Bnd} {X Y S k C:Nat} (h:Bz bs X Y S k C) {T:List Tr} {e:Nat} (g:∀b∈bs,Gbd T e b) (us:List Tr):Wb bs.length us.length (Lf bs us) (bs.map scl) C:=by
 refine ⟨⟨X*S,⟨fun i c hi hc=> ?_,h.xs⟩,h.cc⟩,fun s ms=> ?_,h.c1,h.big⟩
 . have mb:bs.getD i ⟨[],(0,1),false⟩∈bs:=by
    rw [yv,yj hi];exact z5 hi
   unfold Lf;generalize bs.getD i ⟨[],(0,1),false⟩=b at mb;obtain ⟨_,h2,h3,_⟩:=h.ps b mb;have hs:=h.sc b mb;have gb:=g b mb;unfold rowF;split
   . rw [zO];refine yC (vo (e:=e) (M:=X) fun p mp=>⟨(gb.ps p mp).2.gf.pos,(h2 p mp).1⟩) (Nat.mul_le_mul_left _ hs)
   . split
     . exact yC (uP gb.lim.pos) (zM h3 hs)
     . have:=h.xs;split
       . show 1<=X*S;exact this
       . exact yJ _
 . obtain ⟨b,mb,rfl⟩:=yR.mp ms;exact ⟨(g b mb).scl_ok.1,yC (h.sc b mb) h.s1⟩
section
variable {P:Program} {w:World} {K:PySem.W.Frag} {mg:Str->Option Value} {base:Heap} {T0:Addr}
def pQ (C0:Addr):Sp:=fun vs H Q _=>∃(lb lsu:Addr) (xs ys:List V) (bs:List Bnd) (ex:List (List Pq)) (T:List Tr) (e X Y S k C:Nat),vs= [.ref lb, .ref lsu]/\H lb=some (.lst xs)/\TrsAt H xs (bs.map bdT)/\H lsu=some (.lst ys)/\TrsAt H ys (ex.map sumT)/\
 (∀b∈bs,Gbd T e b)/\(∀ps∈ex,∀p∈ps,Gm T p.1)/\e<=8000/\T.length < 60/\bs.length<=64/\ex.length<=64/\k<=60/\Bz bs X Y S k C/\
 ∀(D:TA) (H':Hp) (us:List Tr) (ws:List V) (pl:Addr) (ls:List V) (Tb:Wg.Tb),D.C=C0->Same H H'->Tab D bs.length us.length (bs.map scl) us ws pl ls Tb H'->Okt bs.length us.length (Lf bs us) Tb->us.Nodup->(∀u∈us,Gm T u)->us.length<=T.length->
  (∀x,x∈us↔(∃b∈bs,∃p∈b.ps,p.1=x)\/∃ps∈ex,∃p∈ps,p.1=x)->H D.a=none->H D.pss=none->H D.ph=none->Q (.ref D.a) H'
theorem scTof:FnScope ["bounds","sums","bound","terms","pairs","strict","scales","lines","scale","counts","table"] ["bounds","sums"] (af sTof):= .of
theorem wd {f fTm fSc fSh fCt fWh fI fSe C0:Addr} {fd dTm dSc dSh dCt dWh dI dSe:FuncData} (F:Fun K "table_of" "table_of" sTof f fd) (B:Blt mg) (hk:Tk K C0)
 (GTm:FnOk P w K mg base CX0 42 fTm dTm ["sums"] pR) (kTm:PySem.W.keepIn K (.ref fTm)=true) (bTm:Binds K dTm ["sums"] []) (mTm:mg "terms_of"=some (.ref fTm))
 (GSc:FnOk P w K mg base CX0 2 fSc dSc ["shares"] pX) (kSc:PySem.W.keepIn K (.ref fSc)=true) (bSc:Binds K dSc ["shares"] []) (mSc:mg "scale_of"=some (.ref fSc))
 (GSh:FnOk P w K mg base CX0 1 fSh dSh ["pairs"] pV) (kSh:PySem.W.keepIn K (.ref fSh)=true) (bSh:Binds K dSh ["pairs"] []) (mSh:mg "shares_in"=some (.ref fSh))
 (GCt:FnOk P w K mg base CX0 42 fCt dCt ["pairs","terms","scale"] qm) (kCt:PySem.W.keepIn K (.ref fCt)=true) (bCt:Binds K dCt ["pairs","terms","scale"] []) (mCt:mg "counts_of"=some (.ref fCt))
 (GWh:FnOk P w K mg base CX0 1 fWh dWh ["share","scale"] lW) (kWh:PySem.W.keepIn K (.ref fWh)=true) (bWh:Binds K dWh ["share","scale"] []) (mWh:mg "whole_of"=some (.ref fWh))
 (M:Mk K C0 fI) (GI:FnOk P w K mg base CX0 1 fI dI ["self","terms","scales","lines"] (kG (K:=K) C0)) (bI:Binds K dI ["self","terms","scales","lines"] []) (mC:mg "Table"=some (.ref C0))
 (GSe:FnOk P w K mg base CX0 3 fSe dSe ["table"] (pW (K:=K))) (kSe:PySem.W.keepIn K (.ref fSe)=true) (bSe:Binds K dSe ["table"] []) (mSe:mg "settle"=some (.ref fSe)):
 FnOk P w K mg base CX0 43 f fd ["bounds","sums"] (pQ C0):=by
 refine F.okb scTof fun vs H Q E h=> ?_;refine hZq fun q_ e_=> ?_;obtain ⟨lb,lsu,xs,ys,bs,ex,T,e,X,Y,S,k,C,rfl,hlb,hxs,hls,hys,hg,hex,he,hT60,b64,ex64,k60,hz,q⟩:=h;subst e_;refine ⟨rfl,fun cdv A outer s hr=> ?_⟩;have hr1:Room 1 _:=hr.mono (by decide)
 have hr2:Room 2 _:=hr.mono (by decide)
 have hr3:Room 3 _:=hr.mono (by decide)
 have nd1:(["bound"]:List Str).Nodup:=by decide +kernel
 have nd1':(["count"]:List Str).Nodup:=by decide +kernel
 have nd3:(["pairs","bound","strict"]:List Str).Nodup:=by decide +kernel
 refine ⟨_,ac (psA 3 scTof.nd (ai GTm hr rfl mTm kTm bTm .nil ax (a0 (ak cJ (aV (NC:= ["bound"]) (mp:= [none]) rfl (aZ (pv 0)) (fun _ _ _ _ _=>pgA 0 nd1) (fun _ _ _ _ _=>aS) (fun _ _ _ _ _=>am (r:=rIxT K) aH (pv 0) ad fun _ _=>rfl)) (bQ eU rfl B.li PyProof.Rows.boot_list (a0 (pv 1) a9))) a9)))
  (ac (eM (i:=6) (NC:= ["pairs","bound","strict"]) (mp:= [none,none,none]) (g:=gTup K 3 (bf (aL 0) (bf (aL 1) (bf (aL 2) gNil)))) rfl scTof.nd rfl rfl rfl (aZ (pv 0))
   (fun _ _ _ _ _=>be (n:=3) rfl (aj (pgA 0 nd3) (aj (pgA 1 nd3) (aj (pgA 2 nd3) aP)))) (fun _ _ _ _ _=>aS)
   (fun _ _ _ _ _=>ai GSc hr2 rfl mSc kSc bSc .nil ax (a0 (ak cJ (ai GSh hr1 rfl mSh kSh bSh .nil ax (a0 (pv 0) a9)) (bu (a0 (pv 1) a9))) a9)))
  (ac (psA 7 scTof.nd (bu a9))
  (ac (bZ PassesOwn.never rfl (iY (k:= .lst) rfl B.zi (a0 (pv 0) (a0 (pv 6) a9))) (be rfl (aj (be (n:=3) rfl (aj (pgA 4 scTof.nd) (aj (pgA 2 scTof.nd) (aj (pgA 5 scTof.nd) aP)))) (aj (pgA 8 scTof.nd) aP)))
   (ac (psA 9 scTof.nd (ai GCt hr rfl mCt kCt bCt .nil ax (a0 (pv 4) (a0 (pv 3) (a0 (pv 8) a9)))))
   (ah (dc (ig PySem.F.plainAttrs_list PySem.F.slot_list_append PySem.F.type_list_append cV (pv 7) (a0 (ak cJ (aV (NC:= ["count"]) (mp:= [none]) rfl (aZ (pv 9)) (fun _ _ _ _ _=>pgA 0 nd1') (fun _ _ _ _ _=>aS) (fun _ _ _ _ _=>cy bA (pv 0)))
    (bu (a0 (ai GWh hr1 rfl mWh kWh bWh .nil ax (a0 (pv 2) (a0 (pv 8) a9))) (a0 (dy (dZ (pv 5) fun _=>rfl) (cy bA ad) ad) a9)))) a9))))))
  (ac (psA 10 scTof.nd (ue M GI hr2 rfl mC bI .nil ax (a0 (pv 3) (a0 (pv 6) (a0 (pv 7) a9)))))
  (ac (dc (ai GSe hr3 rfl mSe kSe bSe .nil ax (a0 (pv 10) a9)))
  (ah (az (pv 10)))))))),?_⟩
 have hL20:(20000:Nat)<=sizeLine:=by decide +kernel
 have xl:=hxs.len;rw [yi] at xl;have yl:=hys.len;rw [yi] at yl;obtain ⟨pss,epss⟩:∃pss,pss=bs.map (·.ps)++ex:=⟨_,rfl⟩;refine jA ?_;refine bV rfl ?_;refine ⟨_,rfl,lb,rfl,⟨_,SqL.of hlb⟩,fun L1 nL1=> ?_⟩;refine bU (xs:=xs) (fun j acc H'=>Same H H'/\H' L1=some (.lst acc)/\TrsAt H' acc ((bs.take j).map fun b=>sumT b.ps)) ⟨aa nL1,a8,by rw [zg];exact .nil⟩ (fun j acc H' p=>SqL.of (p.1 _ _ hlb)) ?_ ?_
 . intro j x acc H' hj exx z_;refine hZq fun q_ e_=> ?_;obtain ⟨s2,hL,hA⟩:=z_;obtain ⟨t,et,ht⟩:=(hxs.mono (Kd.of_same s2)).get' exx;rw [yo] at et;obtain ⟨b,eb,rfl⟩:=yw.mp et;obtain ⟨r,x1,y1,z1,rfl,hr',hx1,_,_⟩:=eh ht;subst e_;have al:=hA.len;rw [yi,yS] at al;refine ⟨_,rfl,r,_,0,_,rfl,rfl,SqT.of hr',rfl,?_⟩;have kd:=Kd.upd (ys:=acc++ [x1]) hL;refine CompN.mk hj (by omega) hL ⟨aF nL1 s2,a8,?_⟩
   rw [ay eb,yK];exact TrsAt.app (.cons (hx1.mono kd) .nil) (hA.mono kd)
 rintro acc H1 ⟨s1,hL1,hA⟩;rw [xl,yO] at hA;have al:=hA.len;rw [yi] at al;refine ⟨_,rfl,lsu,_,rfl, .inl (SqL.of (s1 _ _ hls)),fun l2 nl2=> ?_⟩;have sl2:=aa (o:= .lst ys) nl2;refine ⟨L1,l2,_,_,rfl,rfl,sl2 _ _ hL1,a8,by omega,fun p1 np1=> ?_⟩
 have sp1:=aa (o:= .lst (acc++ys)) np1;have sA:=(s1.trans sl2).trans sp1;refine ⟨p1,_,pss,T,rfl,a8,?_,?_,by omega,fun lt ws us H2 nlt s2 hlt hws und umem=> ?_⟩
 . rw [epss,yK,zI];exact TrsAt.app (hys.mono (Kd.of_same sA)) (hA.mono (Kd.of_same (sl2.trans sp1)))
 . intro ps mps p mp;rw [epss] at mps;rcases yN.mp mps with m|m
   . obtain ⟨b,mb,rfl⟩:=yR.mp m;exact ((hg b mb).ps p mp).1
   . exact hex ps m p mp
 have umem':∀x,x∈us↔(∃b∈bs,∃p∈b.ps,p.1=x)\/∃ps∈ex,∃p∈ps,p.1=x:=fun x=>by
  rw [umem x,epss];constructor
  . rintro ⟨ps,m,h⟩;rcases yN.mp m with m|m
    . obtain ⟨b,mb,rfl⟩:=yR.mp m;exact .inl ⟨b,mb,h⟩
    . exact .inr ⟨ps,m,h⟩
  . rintro (⟨b,mb,h⟩|⟨ps,m,h⟩)
    . exact ⟨b.ps,zq _ (yR.mpr ⟨b,mb,rfl⟩),h⟩
    . exact ⟨ps,yB _ m,h⟩
 have ugm:∀u∈us,Gm T u:=fun u mu=>by
  rcases (umem' u).mp mu with ⟨b,mb,p,mp,rfl⟩|⟨ps,m,p,mp,rfl⟩
  . exact ((hg b mb).ps p mp).1
  . exact hex ps m p mp
 have uT:us.length<=T.length:=sub_len und fun u mu=>(ugm u mu).mem;have sB:=sA.trans s2;refine ag ?_;refine dR ?_;refine lJ (K:=K) (xs:=xs) (a:=lb) (fun Q q=>⟨_,rfl,q⟩) (SqL.of (sB _ _ hlb)) fun L3 nL3=> ?_;refine ⟨fun j acc H'=>Same H2 H'/\H' L3=some (.lst acc)/\acc=((bs.take j).map scl).map V.int,⟨aa nL3,a8,rfl⟩,fun j acc H' p=>SqL.of (p.1 _ _ (sB _ _ hlb)),?_,?_⟩
 . rintro j z acc H' hj ⟨s3,hL3,rfl⟩ ez;refine hZq fun q_ e_=> ?_;obtain ⟨t,et,ht⟩:=(hxs.mono (Kd.of_same (sB.trans s3))).get' ez;rw [yo] at et;obtain ⟨b,eb,rfl⟩:=yw.mp et;have mb:=yq eb;obtain ⟨r,x1,y1,z1,rfl,hr',hx1,hy1,hz1⟩:=eh ht;obtain ⟨k1,k2,k3,k4⟩:=hz.ps b mb;subst e_;have gb:=hg b mb;refine ⟨r,_,rfl,SqT.of hr',rfl,_,_,rfl,_,_,rfl,_,_,rfl,rfl,ext3,fi ?_⟩;refine ⟨_,rfl,x1,b.ps,rfl,hx1,by omega,fun l4 w4 H4 s4 nl4 hl4 hw4=> ?_⟩
   have w4l:=hw4.len;rw [yi] at w4l;refine ⟨_,rfl,(by show 1<=sizeLine;decide),fun l5 nl5=> ?_⟩
   have s5:=aa (o:= .lst [y1]) nl5;refine ⟨l4,l5,_,_,rfl,rfl,s5 _ _ hl4,a8,by show w4.length+1<=sizeLine;omega,fun p6 np6=> ?_⟩
   have s6:=aa (o:= .lst (w4++ [y1])) np6;refine ⟨p6,_,b.ps.map (·.2)++ [b.lim],Y,rfl,a8,?_,?_,hz.y1,?_,?_⟩
   . rw [yK,zI];refine TrsAt.app (.cons (hy1.mono (Kd.of_same ((s4.trans s5).trans s6))) .nil) ?_;exact hw4.mono (Kd.of_same (s5.trans s6))
   . intro f mf;rcases yN.mp mf with m|m
     . obtain ⟨p,mp,rfl⟩:=yR.mp m;exact ⟨(gb.ps p mp).2.gf.pos,(k2 p mp).2⟩
     . rw [yD.mp m];exact ⟨gb.lim.pos,k4⟩
   . refine yM (oj hz.y1 ?_) hz.yb;rw [yI,yi];show b.ps.length+1+1<=k+2;omega
   . have jl:j < bs.length:=(yt.mp eb).1;refine CompN.mk hj (by rw [yi,yi,yS];omega) (((s4.trans s5).trans s6) _ _ hL3) ⟨aF nL3 (((s3.trans s4).trans s5).trans s6),a8,?_⟩
     rw [ay eb];simp [scl]
 rintro acc3 H3 ⟨s3,hL3,rfl⟩;rw [xl,yO] at hL3;have sC:=sB.trans s3;refine ag ?_;refine ⟨(by show 0<=sizeLine;omega),fun pl npl=> ?_⟩
 have spl:=aa (o:= .lst []) npl;refine ag ?_;have sD:=sC.trans spl;obtain ⟨H4,eH4⟩:∃H4,H4=upd H3 pl (.lst []):=⟨_,rfl⟩;rw [<-eH4] at spl sD ⊢;have h4pl:H4 pl=some (.lst []):=by rw [eH4];exact a8
 have plN:H pl=none:=sC.free npl;have nbp:lb≠pl:=fun z=>by rw [z,plN] at hlb;cases hlb
 have h4b:=sD _ _ hlb;have h4sc:H4 L3=some (.lst ((bs.map scl).map V.int)):=spl _ _ hL3;have n3p:L3≠pl:=fun z=>by rw [z,npl] at hL3;cases hL3
 have h4t:H4 lt=some (.lst ws):=(s3.trans spl) _ _ hlt;have ntp:lt≠pl:=fun z=>by rw [z] at hlt;rw [s3 _ _ hlt] at npl;cases npl
 have hws4:=hws.mono (Kd.of_same (s3.trans spl))
 have kdP:∀ {H':Hp},But1 pl H4 H'->(∃zs,H' pl=some (.lst zs))->Kd H4 H':=fun {H'} b hp=>⟨fun x o e=>b _ _ (fun z=>by rw [z,h4pl] at e;cases e) e,fun x o e=>by
  by_cases z:x=pl
  . rw [z];exact hp
  . exact ⟨o,b _ _ z e⟩⟩
 refine ⟨_,rfl,_,rfl,lb,L3,xs,(bs.map scl).map V.int,rfl,SqL.of h4b,SqL.of h4sc,?_⟩
 refine si (xs:=xs) (ys:=(bs.map scl).map V.int) (by rw [yi,yi];omega)
  (fun i σ H'=>(∃v2 v4 v5 v8 v9,σ= [some (.ref lb),some (.ref lsu),v2,some (.ref lt),v4,v5,some (.ref L3),some (.ref pl),v8,v9,none])/\But1 pl H4 H'/\∃acc,H' pl=some (.lst acc)/\acc.length=i/\∀j,j < i->∃q,acc[j]?=some (.ref q)/\H' q=some (.lst ((Wg.ls (us.length+2) (Lf bs us j)).map V.int))/\q≠pl)
  ⟨⟨none,none,none,none,none,rfl⟩,fun x o _ e=>e,[],h4pl,rfl,fun j hj=>absurd hj (Nat.not_lt_zero _)⟩ (fun i σ H' _ p=>⟨SqL.of (p.2.1 _ _ nbp h4b),SqL.of (p.2.1 _ _ n3p h4sc)⟩) ?_ ?_
 . rintro i Tt x y σ H' ex' ey _ ⟨⟨v2,v4,v5,v8,v9,rfl⟩,b1,acc',hpl,al',hz'⟩ nT;rw [yo,yo] at ey;have kd1:=kdP b1 ⟨_,hpl⟩;refine hZq fun q_ e_=> ?_;obtain ⟨t,et,ht⟩:=((hxs.mono (Kd.of_same sD)).mono kd1).get' ex';rw [yo] at et;obtain ⟨b,eb,rfl⟩:=yw.mp et;subst e_;rw [eb] at ey;cases ey;have mb:=yq eb;have ib:i < bs.length:=(yt.mp eb).1;have gb:=hg b mb;refine hZq fun q_ e_=> ?_;obtain ⟨r,x1,y1,z1,rfl,hr',hx1,hy1,hz1⟩:=eh ht;have sT:=aa (o:= .tup [.ref r, .int (scl b)]) nT;obtain ⟨k1,k2,k3,k4⟩:=hz.ps b mb;subst e_;have sclB:Big (scl b):=cr (yC (hz.sc b mb) hz.s1) hz.big;unfold TrAt at hz1;subst hz1;refine ⟨Tt,_,rfl,SqT.of a8,rfl,_,_,rfl,r,_,rfl,SqT.of (sT _ _ hr'),rfl,_,_,rfl,_,_,rfl,_,_,rfl,rfl,_,_,rfl,rfl,?_⟩;refine ⟨_,rfl,_,rfl,_,rfl,x1,b.ps,lt,ws,us,T,scl b,e,rfl,hx1.mono (Kd.of_same sT),gb.asc,gb.ps,he,sclB,by omega,sT _ _ (b1 _ _ ntp h4t),(hws4.mono kd1).mono (Kd.of_same sT),ugm,by omega,fun l5 H5 nl5 s5 hl5=> ?_⟩
   refine ag ?_;refine ⟨_,rfl, .inl ⟨rfl,_,SqL.of ((sT.trans s5) _ _ hpl)⟩,?_⟩;refine pi ?_;refine bV rfl ?_;refine ⟨_,rfl,l5,rfl,⟨_,SqL.of hl5⟩,fun L6 nL6=> ?_⟩;refine bU (xs:=(us.map fun t=>cw (scl b) t b.ps).map V.int) (fun j acc H6=>Same H5 H6/\H6 L6=some (.lst acc)/\acc=(((us.map fun t=>cw (scl b) t b.ps).take j).map fun x=> -x).map V.int) ⟨aa nL6,a8,rfl⟩ (fun j acc H6 p=>SqL.of (p.1 _ _ hl5)) ?_ ?_
   . intro j x acc H6 hj exx z_;refine hZq fun q_ e_=> ?_;obtain ⟨s6,hL6,rfl⟩:=z_;rw [yo] at exx;obtain ⟨c,ec,rfl⟩:=yw.mp exx;subst e_;have jl:j < us.length:=by have:=(yt.mp ec).1;rw [yi] at this;exact this
     refine ⟨_,rfl,c,rfl,?_⟩;refine CompN.mk hj (by rw [yi,yi,yS,yi];omega) hL6 ⟨aF nL6 s6,a8,?_⟩
     rw [ay ec];simp
   rintro acc6 H6 ⟨s6,hL6,rfl⟩;rw [yi,yO] at hL6;have sE:=(sT.trans s5).trans s6;refine ⟨_,rfl,_,rfl,y1,b.lim,scl b,rfl,hy1.mono (Kd.of_same sE),gb.lim.pos,gb.lim.bot.big he,gb.lim.top.big he,sclB,_,rfl,b.st,rfl,?_⟩;have row:=tW (us:=us) (b:=b) (n:=us.length) rfl
   have eLf:Lf bs us i=rowF us b:=by
    unfold Lf;rw [yv,eb];rfl
   have accN:∀v:Int,(acc'++ [V.int v]).length=i+1:=fun v=>by rw [yI,al'];rfl
   have fin:∀st:Int,(if b.st=true then (-1:Int) else 0)=st->∀l7 p8,H6 l7=none->(upd H6 l7 (.lst [.int (wh b.lim (scl b)), .int st])) p8=none->
    But1 pl H4 (upd (upd (upd H6 l7 (.lst [.int (wh b.lim (scl b)), .int st])) p8 (.lst ((((us.map fun t=>cw (scl b) t b.ps).map fun x=> -x).map V.int)++ [.int (wh b.lim (scl b)), .int st]))) pl (.lst (acc'++ [.ref p8])))/\
    ∃acc,(upd (upd (upd H6 l7 (.lst [.int (wh b.lim (scl b)), .int st])) p8 (.lst ((((us.map fun t=>cw (scl b) t b.ps).map fun x=> -x).map V.int)++ [.int (wh b.lim (scl b)), .int st]))) pl (.lst (acc'++ [.ref p8]))) pl=some (.lst acc)/\acc.length=i+1/\
     ∀j,j < i+1->∃q,acc[j]?=some (.ref q)/\(upd (upd (upd H6 l7 (.lst [.int (wh b.lim (scl b)), .int st])) p8 (.lst ((((us.map fun t=>cw (scl b) t b.ps).map fun x=> -x).map V.int)++ [.int (wh b.lim (scl b)), .int st]))) pl (.lst (acc'++ [.ref p8]))) q=some (.lst ((Wg.ls (us.length+2) (Lf bs us j)).map V.int))/\q≠pl:=by
    intro st est l7 p8 nl7 np8;have s7:=aa (o:= .lst [.int (wh b.lim (scl b)), .int st]) nl7;have s8:=aa (o:= .lst ((((us.map fun t=>cw (scl b) t b.ps).map fun x=> -x).map V.int)++ [.int (wh b.lim (scl b)), .int st])) np8;have hpl8:=((sE.trans s7).trans s8) _ _ hpl;have n8:p8≠pl:=fun z=>by rw [z,(sE.trans s7) _ _ hpl] at np8;cases np8
    refine ⟨fun x o nx e=> ?_,acc'++ [.ref p8],a8,by rw [yI,al'];rfl,fun j hj=> ?_⟩
    . rw [ae nx];exact ((sE.trans s7).trans s8) _ _ (b1 _ _ nx e)
    . rcases Nat.lt_or_ge j i with h|h
      . obtain ⟨q,a1,a2,a3⟩:=hz' j h;exact ⟨q,by rw [List.getElem?_append_left (by omega)];exact a1,by rw [ae a3];exact ((sE.trans s7).trans s8) _ _ a2,a3⟩
      . have e:j=i:=by omega
        subst e;refine ⟨p8,by rw [List.getElem?_append_right (by omega),al'];simp,?_,n8⟩
        rw [ae n8,a8,eLf,row,yK,<-est];rfl
   have lenA:∀z:Int,((((us.map fun t=>cw (scl b) t b.ps).map fun x=> -x).map V.int)).length+ [V.int (wh b.lim (scl b)),V.int z].length<=sizeLine:=fun z=>by
    rw [yi,yi,yi];show us.length+2<=sizeLine;omega
   cases hst:b.st with
   |true=>
    refine iteT ⟨1,rfl,two,fun l7 nl7=> ?_⟩;have s7:=aa (o:= .lst [.int (wh b.lim (scl b)), .int (-1)]) nl7;refine ⟨L6,l7,_,_,rfl,rfl,s7 _ _ hL6,a8,lenA _,fun p8 np8=> ?_⟩;have s8:=aa (o:= .lst ((((us.map fun t=>cw (scl b) t b.ps).map fun x=> -x).map V.int)++ [.int (wh b.lim (scl b)), .int (-1)])) np8;refine ⟨pl,acc',_,rfl,rfl,((sE.trans s7).trans s8) _ _ hpl,by omega,?_⟩
    obtain ⟨c1,c2⟩:=fin (-1) (by rw [hst];rfl) l7 p8 nl7 np8
    exact ⟨⟨_,_,_,_,_,rfl⟩,c1,c2⟩
   |false=>
    refine iteF ⟨two,fun l7 nl7=> ?_⟩;have s7:=aa (o:= .lst [.int (wh b.lim (scl b)), .int 0]) nl7;refine ⟨L6,l7,_,_,rfl,rfl,s7 _ _ hL6,a8,lenA _,fun p8 np8=> ?_⟩;have s8:=aa (o:= .lst ((((us.map fun t=>cw (scl b) t b.ps).map fun x=> -x).map V.int)++ [.int (wh b.lim (scl b)), .int 0])) np8;refine ⟨pl,acc',_,rfl,rfl,((sE.trans s7).trans s8) _ _ hpl,by omega,?_⟩
    obtain ⟨c1,c2⟩:=fin 0 (by rw [hst];rfl) l7 p8 nl7 np8
    exact ⟨⟨_,_,_,_,_,rfl⟩,c1,c2⟩
 intro σ H5 z_;refine hZq fun q_ e_=> ?_;obtain ⟨⟨v2,v4,v5,v8,v9,rfl⟩,b1,acc5,hpl5,al5,hz5⟩:=z_;subst e_;rw [xl] at al5 hz5;have kd5:=kdP b1 ⟨_,hpl5⟩;refine ⟨_,rfl,_,rfl,_,rfl,fun x dx nx ndx nex=> ?_⟩;have nxp:x≠pl:=fun z=>by rw [z,hpl5] at nx;cases nx
 have sx:Same H5 (upd (upd H5 dx (.own x)) x (.ins C0 dx [])):=(aa ndx).trans (aa (by rw [ae nex.symm];exact nx))
 have o4:∀ {y:Addr} {o:HO},y≠pl->H4 y=some o->(upd (upd H5 dx (.own x)) x (.ins C0 dx [])) y=some o:=fun {y o} n e=>sx _ _ (b1 _ _ n e);have oH:∀ {y:Addr} {o:HO},H y=some o->H5 y=some o:=fun {y o} e=>b1 _ _ (fun z=>by rw [z,plN] at e;cases e) (sD _ _ e)
 have nxH:H x=none:=by
  cases qq:H x with
  |none=>rfl
  |some o=>rw [oH qq] at nx;cases nx
 refine ⟨x,dx,lt,L3,pl,bs.length,us.length,bs.map scl,us,ws,acc5,Lf bs us,rfl,hk,a8,o4 ntp h4t,(hws4.mono kd5).mono (Kd.of_same sx),rfl,o4 n3p h4sc,by rw [yi],sx _ _ hpl5,⟨al5,fun i hi=> ?_⟩,b64,by omega,fun D H6 eDa eDC b6 tb6 nps nph=>⟨rfl,?_⟩⟩
 . obtain ⟨q,a1,a2,_⟩:=hz5 i hi;exact ⟨q,a1,sx _ _ a2⟩
 refine ag ?_;refine ⟨_,rfl,D,bs.length,us.length,C,bs.map scl,us,ws,pl,acc5,Lf bs us,by rw [eDa];rfl,by rw [eDC];exact hk,tb6,hz.wb hg us,fun pl' ls' Tb H7 bx tb7 ok7=> ?_⟩
 have o6:∀ {y:Addr} {o:HO},H y=some o->H6 y=some o:=fun {y o} e=>b6 _ _ (fun z=>by rw [z,nxH] at e;cases e) (sx _ _ (oH e))
 have fresh:∀ {y:Addr},(upd (upd H5 dx (.own x)) x (.ins C0 dx [])) y=none->H y=none:=fun {y} n=>by
  cases qq:H y with
  |none=>rfl
  |some o=>rw [sx _ _ (oH qq)] at n;cases n
 have nH:∀ {y z:Addr} {o:HO},H y=some o->H z=none->y≠z:=fun {y z o} e n w=>by rw [w,n] at e;cases e
 have res:=q D H7 us ws pl' ls' Tb eDC (fun y o e=>bx _ _ (by rw [eDa];exact nH e nxH) (nH e (fresh nps)) (nH e (fresh nph)) (o6 e)) tb7 ok7 und ugm uT umem' (by rw [eDa];exact nxH) (fresh nps) (fresh nph)
 rw [eDa] at res;exact ⟨_,rfl,res⟩
theorem big3 {C:Nat} {x y:Int} (h:x.natAbs<=C) (h2:y.natAbs<=C+1) (hb:C < lim):Big (x*y):=by
 unfold Big;rw [yT];exact yM (zM (yC h (Nat.le_of_lt hb)) (yC h2 hb)) (yM (Nat.le_of_eq (Nat.pow_add 2 2600 2600).symm) (Nat.pow_lt_pow_right (by decide) (by decide)))
def TmIn (us:List Tr) (bs:List Bnd):Prop:=us.Nodup/\∀x,x∈us↔∃b∈bs,∃p∈b.ps,p.1=x
structure WOut (T0:Addr) (H H':Hp) (bs:List Bnd) (l:Addr) (ws2:List V) (us2 us:List Tr) (Tb:Wg.Tb) (i:Nat):Prop where
 bt:ButT T0 H H'
 lm:Lm T0 H'
 ok:Okt bs.length us.length (Lf bs us) Tb
 hi:i < bs.length
 hs:Tb.sd i < bs.length
 ng:Ngv us.length Tb i
 le:∀c,c < us.length->Tb.ln i c<=0
 wt:tq H H' l ws2 us2 (wts (bs.map scl) (cnt us.length Tb i))
 tm:TmIn us bs
 nw:∀xs,H l≠some (.lst xs)
structure NOut (P:Program) (w:World) (K:PySem.W.Frag) (T0:Addr) (H H':Hp) (bs:List Bnd) (C:Nat) (d:Addr) (us:List Tr) (Tb:Wg.Tb) (M:Int) (G:Tr->Fr):Prop where
 bt:ButT T0 H H'
 lm:Lm T0 H'
 ok:Okt bs.length us.length (Lf bs us) Tb
 no:∀i,i < bs.length->Tb.sd i < bs.length->¬Ngv us.length Tb i
 m1:1<=M
 mc:M<=(C:Int)+1
 mp:∀i,i < bs.length->Tb.sd i < bs.length->0 < Tb.ln i us.length-> -(Tb.ln i (us.length+1) / Tb.ln i us.length)<=M
 da:Dj.DAt P w K H' d us G
 g:∀j u,us[j]?=some u->G u=(fx (Wg.pt bs.length us.length M Tb (bs.length+j)) (Tb.bot*M),fy (Wg.pt bs.length us.length M Tb (bs.length+j)) (Tb.bot*M))
 tm:TmIn us bs
 dn:H d=none
def pL (P:Program) (w:World) (K:PySem.W.Frag) (T0:Addr):Sp:=fun vs H Q _=>∃(lb:Addr) (xs:List V) (bs:List Bnd) (T:List Tr) (e X Y S k C:Nat),vs= [.ref lb]/\H lb=some (.lst xs)/\TrsAt H xs (bs.map bdT)/\(∀b∈bs,Gbd T e b)/\e<=8000/\T.length < 60/\bs.length<=64/\k<=60/\Bz bs X Y S k C/\Lm T0 H/\
 (∀r l H' ws2 us2 us Tb i,H' r=some (.tup [.str (Str.ofString "weights"), .ref l])->WOut T0 H H' bs l ws2 us2 us Tb i->Q (.ref r) H')/\
 ∀r d H' us Tb M G,H' r=some (.tup [.str (Str.ofString "numbers"), .ref d])->NOut P w K T0 H H' bs C d us Tb M G->Q (.ref r) H'
theorem scWgd:FnScope ["bounds","table","weights"] ["bounds"] (af sWgd):= .of
theorem vZ {f fTo fRe fNu fSt C0:Addr} {fd dTo dRe dNu dSt:FuncData} (F:Fun K "weighed" "weighed" sWgd f fd) (hk:Tk K C0)
 (GTo:FnOk P w K mg base CX0 43 fTo dTo ["bounds","sums"] (pQ C0)) (kTo:PySem.W.keepIn K (.ref fTo)=true) (bTo:Binds K dTo ["bounds","sums"] []) (mTo:mg "table_of"=some (.ref fTo))
 (GRe:FnOk P w K mg base CX0 5 fRe dRe ["table"] (pY (K:=K) T0)) (kRe:PySem.W.keepIn K (.ref fRe)=true) (bRe:Binds K dRe ["table"] []) (mRe:mg "refuted"=some (.ref fRe))
 (GNu:FnOk P w K mg base CX0 3 fNu dNu ["table","point"] (pZ (P:=P) (w:=w) (K:=K))) (kNu:PySem.W.keepIn K (.ref fNu)=true) (bNu:Binds K dNu ["table","point"] []) (mNu:mg "numbers_at"=some (.ref fNu))
 (GSt:FnOk P w K mg base CX0 3 fSt dSt ["table"] (pU (K:=K))) (kSt:PySem.W.keepIn K (.ref fSt)=true) (bSt:Binds K dSt ["table"] []) (mSt:mg "strict_point"=some (.ref fSt)):
 FnOk P w K mg base CX0 44 f fd ["bounds"] (pL P w K T0):=by
 refine F.okb scWgd fun vs H Q E h=> ?_;refine hZq fun q_ e_=> ?_;obtain ⟨lb,xs,bs,T,e,X,Y,S,k,C,rfl,hlb,hxs,hg,he,hT60,b64,k60,hz,hLm,kw,kn⟩:=h;subst e_;refine ⟨rfl,fun cdv A outer s hr=> ?_⟩;have hr5:Room 5 _:=hr.mono (by decide)
 have hr3:Room 3 _:=hr.mono (by decide)
 refine ⟨_,ac (psA 1 scWgd.nd (ai GTo hr rfl mTo kTo bTo .nil ax (a0 (pv 0) (a0 (bu a9) a9))))
  (ac (psA 2 scWgd.nd (ai GRe hr5 rfl mRe kRe bRe .nil ax (a0 (pv 1) a9)))
  (ac (cj (vR (uf (pv 2)) (aA _)) (ah (az (aK (a0 bK (a0 (pv 2) a9))))) aU)
  (ah (az (aK (a0 bK (a0 (ai GNu hr3 rfl mNu kNu bNu .nil ax (a0 (pv 1) (a0 (ai GSt hr3 rfl mSt kSt bSt .nil ax (a0 (pv 1) a9)) a9))) a9))))))),?_⟩
 refine ⟨_,rfl,(by show 0<=sizeLine;omega),fun l0 nl0=> ?_⟩
 have s0:=aa (o:= .lst []) nl0;refine ⟨lb,l0,xs,[],bs,[],T,e,X,Y,S,k,C,rfl,s0 _ _ hlb,hxs.mono (Kd.of_same s0),a8, .nil,hg,(fun ps m=>by cases m),he,hT60,b64,by show 0<=64;decide,k60,hz,fun D H1 us ws pl ls Tb eDC s1 tb ok und ugm uT umem nDa nDs nDh=> ?_⟩
 have sA:=s0.trans s1;have tmi:TmIn us bs:=⟨und,fun x=>(umem x).trans ⟨fun h=>h.elim id (fun ⟨_,m,_⟩=>(by cases m)),fun h=>Or.inl h⟩⟩
 have fr:∀ {y:Addr},(upd H l0 (.lst [])) y=none->H y=none:=fun {y} n=>s0.free n;have toT:∀ {H':Hp},ButY T0 D H1 H'->ButT T0 H H':=fun {H'} b x o n ex=>b x o n (fun z=>by rw [z,fr nDa] at ex;cases ex) (fun z=>by rw [z,fr nDs] at ex;cases ex) (fun z=>by rw [z,fr nDh] at ex;cases ex) (sA _ _ ex)
 have hW:=hz.wb hg us;have hkD:Tk K D.C:=by rw [eDC];exact hk
 refine ag ?_;refine ⟨_,rfl,D,bs.length,us.length,C,bs.map scl,us,ws,pl,ls,Lf bs us,Tb,rfl,hkD,tb,hW,ok,hLm.same sA,by omega,fun pl' ls' Tb' H2 bY hLm2 tb2 ok2 hno=> ?_,fun Tb' i l H2 ws2 us2 bY hLm2 ok2 hi hs hng hle hwt _ _ hnl=> ?_⟩
 . refine ag ?_;refine ⟨_,rfl,_,rfl,?_⟩;rw [decide_eq_true rfl];refine iteF (gi ?_);refine ⟨_,rfl,_,rfl,D,bs.length,us.length,C,bs.map scl,us,ws,pl',ls',Lf bs us,Tb',rfl,hkD,tb2,hW,ok2,fun t l H3 M s3 ht hl m1 mc mp=> ?_⟩;have hb3:=(hW.bnd ok2.inv ok2.pm).1;refine ⟨D,bs.length,us.length,bs.map scl,us,ws,pl',ls',Tb',t,l,Tb'.bot*M,_,rfl,hkD,tb2.same s3,ht,hl,zP ok2.inv.pos (by omega),big3 hb3 (by omega) hz.big,und,fun u mu=> ?_,fun d H4 G nd s4 da hG=> ?_⟩
   . refine hZq fun q_ e_=> ?_;obtain ⟨b,mb,p,mp',rfl⟩:=(tmi.2 u).mp mu;subst e_;exact ⟨((hg b mb).ps p mp').2.ty,((hg b mb).ps p mp').2.dep⟩
   . have bT:ButT T0 H H4:=toT ((bY.trans (.of_same s3)).trans (.of_same s4))
     have dH:H d=none:=by
      cases qq:H d with
      |none=>rfl
      |some o=>
       by_cases z:d=T0
       . subst z;obtain ⟨ps,hp⟩:=(hLm2.same s3).tbl;rw [hp] at nd;cases nd
       . have:=toT (bY.trans (.of_same s3)) _ _ z qq;rw [this] at nd;cases nd
     refine ⟨two,fun r nr=> ?_⟩;have sr:=aa (o:= .tup [.str (Str.ofString "numbers"), .ref d]) nr;exact kn r d _ us Tb' M G a8 ⟨fun x o n ex=>sr _ _ (bT x o n ex),((hLm2.same s3).same s4).same sr,ok2,hno,m1,mc,mp,da.same sr,hG,tmi,dH⟩
 . refine ag ?_;refine ⟨_,rfl,_,rfl,?_⟩;rw [decide_eq_false (by intro z;cases z)]
   refine iteT ?_;refine ⟨_,rfl,two,fun r nr=> ?_⟩;have sr:=aa (o:= .tup [.str (Str.ofString "weights"), .ref l]) nr;obtain ⟨w1,w2,w3,w4⟩:=hwt;exact kw r l _ ws2 us2 us Tb' i a8 ⟨fun x o n ex=>sr _ _ (toT bY x o n ex),hLm2.same sr,ok2,hi,hs,hng,hle,⟨sr _ _ w1,w2.mono (Kd.of_same sr),w3,w4⟩,tmi,fun ys z=>hnl ys (sA _ _ z)⟩
noncomputable def ofB (b:Bnd):Bd:=⟨b.ps,b.lim,b.st⟩
theorem iT {t b:Int} (h:0 < b):rv ((fx t b,fy t b):Fr)=(t:Rat) / (b:Rat):=by
 have g0:0 < Int.gcd t b:=yU t (by omega)
 have e:((fx t b,fy t b):Fr)=low t b:=by
  unfold fx fy low dv;rw [if_neg (by omega),z4 _ (by omega),z4 _ (by omega)]
 rw [e];exact vL h
theorem cB {b:Int} (h:0 < b):(b:Rat)≠0:=by
 intro z;have:b=0:=by exact_mod_cast z
 omega
theorem cE {b:Int} (h:0 < b):(0:Rat) < (b:Rat):=by exact_mod_cast h
theorem lS {f:Fr} {s:Int} (h:0 < f.2) (d:f.2∣s):((wh f s:Int):Rat)=rv f*(s:Rat):=by
 obtain ⟨q,rfl⟩:=d;have n:=cB h;unfold wh rv;rw [zK _ (by omega)]
 simp only [Rat.intCast_mul];rw [Rat.div_def];grind
theorem nO {s:Int} {t:Tr}:∀ {a:List Pq},(∀q∈a,q.1≠t)->cw s t a=0
 | [],_=>rfl
 |p::r,h=>by
  simp only [cw];rw [if_neg (h p yn)];exact nO fun q m=>h q (ym _ m)
theorem t8 {p:Pq} {r:List Pq} (h:Asc (p::r)):Asc r/\∀q∈r,q.1≠p.1:=by
 have:=List.pairwise_cons.mp h;exact ⟨this.2,fun q m e=>jP (this.1 q m) e.symm⟩
open Classical in
theorem nP {s:Int} {t:Tr} {p:Pq} {r:List Pq} (h:∀q∈r,q.1≠p.1):cw s t (p::r)=(if p.1=t then wh p.2 s else 0)+cw s t r:=by
 simp only [cw];by_cases e:p.1=t
 . rw [if_pos e,if_pos e,nO fun q m=>by rw [<-e];exact h q m,Int.add_zero]
 . rw [if_neg e,if_neg e,zr]
noncomputable def linI (s:Int) (x:Tr->Int):List Pq->Int
 | []=>0
 |p::r=>wh p.2 s*x p.1+linI s x r
theorem pF {us:List Tr} (nd:us.Nodup) {s:Int} {X:Nat->Int}:∀ {ps:List Pq},Asc ps->(∀p∈ps,p.1∈us)->(Wg.sumN us.length fun c=>cw s (us.getD c .non) ps*X c)=linI s (fun t=>X (Fm.ix us t)) ps
 | [],_,_=>Wg.sumN_zero fun c _=>by simp [cw]
 |p::r,ha,hm=>by
  obtain ⟨ha',hne⟩:=t8 ha;have ih:=pF nd (s:=s) (X:=X) ha' fun q m=>hm q (ym _ m);simp only [linI];rw [<-ih]
  classical
  have e1:(Wg.sumN us.length fun c=>cw s (us.getD c .non) (p::r)*X c)=Wg.sumN us.length fun c=>(if p.1=us.getD c .non then wh p.2 s else 0)*X c+cw s (us.getD c .non) r*X c:=Wg.sumN_congr fun c _=>by rw [nP hne,Int.add_mul]
  rw [e1,Wg.sumN_add];congr 1;have mp:=hm p yn;have ea:=mV mp;have el:=xY mp;have eg:us.getD (Fm.ix us p.1) .non=p.1:=by rw [yv,ea];rfl
  rw [Wg.sumN_one el fun c hc hne'=> ?_]
  . rw [eg,if_pos rfl]
  . rw [if_neg,zk];intro z;refine hne' (rG nd (x:=p.1) ?_ ea);rw [yj hc,z,yv,yj hc];rfl
theorem mK {s:Int} {x:Tr->Int} {g:Tr->Rat} {D:Rat}:∀ {ps:List Pq},(∀p∈ps,0 < p.2.2/\p.2.2∣s)->(∀p∈ps,((x p.1:Int):Rat)=g p.1*D)->((linI s x ps:Int):Rat)=(s:Rat)*D*lin g ps
 | [],_,_=>by simp only [linI,lin];grind
 |p::r,h1,h2=>by
  have ih:=mK (s:=s) (x:=x) (g:=g) (D:=D) (ps:=r) (fun q m=>h1 q (ym _ m)) fun q m=>h2 q (ym _ m);simp only [linI,lin,Rat.intCast_add,Rat.intCast_mul];rw [ih,lS (h1 p yn).1 (h1 p yn).2,h2 p yn];grind
theorem oX {s:Int} {t:Tr}:∀ {ps:List Pq},Asc ps->(∀p∈ps,0 < p.2.2/\p.2.2∣s)->((cw s t ps:Int):Rat)=tot t ps*(s:Rat)
 | [],_,_=>by simp only [cw,tot];grind
 |p::r,ha,h1=>by
  obtain ⟨ha',hne⟩:=t8 ha;have ih:=oX (s:=s) (t:=t) ha' fun q m=>h1 q (ym _ m);rw [nP hne];simp only [tot,Rat.intCast_add];rw [ih];by_cases e:p.1=t
  . rw [if_pos e,if_pos e,lS (h1 p yn).1 (h1 p yn).2];grind
  . rw [if_neg e,if_neg e];grind
open Classical in
noncomputable def gw (us:List Tr) (G:Tr->Fr) (t:Tr):Rat:=if t∈us then rv (G t) else 0
theorem jb {bs:List Bnd} {us:List Tr} {k:Nat} {b:Bnd} (e:bs[k]?=some b):Lf bs us k=rowF us b:=by
 unfold Lf;rw [yv,e];rfl
theorem NOut.met {P:Program} {w:World} {K:PySem.W.Frag} {T0 d:Addr} {H H':Hp} {bs:List Bnd} {C:Nat} {us:List Tr} {Tb:Wg.Tb} {M:Int} {G:Tr->Fr} {T:List Tr} {e:Nat} (hg:∀b∈bs,Gbd T e b) (h:NOut P w K T0 H H' bs C d us Tb M G):
 ∀b∈bs,lin (gw us G) b.ps < rv b.lim\/(lin (gw us G) b.ps=rv b.lim/\b.st=false):=by
 intro b mb;obtain ⟨k,hk,ek⟩:=zf mb;have ek':bs[k]?=some b:=by rw [yj hk,ek]
 have gb:=hg b mb;obtain ⟨s0,sd,ld⟩:=gb.scl_ok;have m1:=h.m1;have b0:=h.ok.inv.pos;have pm:=Wg.pt_meets h.ok.inv h.ok.pm (K:=M) (fun i hi hs=> ?_) hk;rotate_left
 . have nn:=h.no i hi hs;unfold Ngv at nn;unfold Wg.val;by_cases u:0 < Tb.ln i us.length
   . exact Wg.parts_ok u (h.mp i hi hs u)
   . have u0:Tb.ln i us.length=0:=by omega
     rw [u0,zw,zr];omega
 have er:=jb (us:=us) ek';rw [er] at pm
 have e1:(Wg.sumN us.length fun c=>rowF us b c*Wg.pt bs.length us.length M Tb (bs.length+c))= -1*linI (scl b) (fun t=>Wg.pt bs.length us.length M Tb (bs.length+Fm.ix us t)) b.ps:=by
  rw [<-pF h.tm.1 gb.asc (fun p mp=>(h.tm.2 p.1).mpr ⟨b,mb,p,mp,rfl⟩) (X:=fun c=>Wg.pt bs.length us.length M Tb (bs.length+c)),<-Wg.sumN_mul];refine Wg.sumN_congr fun c hc=> ?_;unfold rowF;rw [if_pos hc];grind
 have e2:rowF us b us.length=wh b.lim (scl b):=by unfold rowF;rw [if_neg (by omega),if_pos rfl]
 have e3:rowF us b (us.length+1)=if b.st then -1 else 0:=by unfold rowF;rw [if_neg (by omega),if_neg (by omega)]
 rw [e1,e2,e3] at pm;have D0:(0:Int) < Tb.bot*M:=zP b0 (by omega)
 have Dn:=cB D0
 have lr:=mK (s:=scl b) (x:=fun t=>Wg.pt bs.length us.length M Tb (bs.length+Fm.ix us t)) (g:=gw us G) (D:=((Tb.bot*M:Int):Rat)) (ps:=b.ps) (fun p mp=>⟨(gb.ps p mp).2.gf.pos,sd p mp⟩) fun p mp=>by
  have mu:p.1∈us:=(h.tm.2 p.1).mpr ⟨b,mb,p,mp,rfl⟩;unfold gw;rw [if_pos mu,h.g _ _ (mV mu),iT D0];rw [Rat.div_def];grind
 have wr:=lS (s:=scl b) gb.lim.pos ld;have S0:=cE s0;have DD:=cE D0;have B0:=cE b0;have A0:(0:Rat) < (scl b:Rat)*((Tb.bot*M:Int):Rat):=Rat.mul_pos S0 DD
 have key:((linI (scl b) (fun t=>Wg.pt bs.length us.length M Tb (bs.length+Fm.ix us t)) b.ps:Int):Rat)<=((Tb.bot*(M*wh b.lim (scl b)+(if b.st=true then -1 else 0)):Int):Rat):=by
  have:linI (scl b) (fun t=>Wg.pt bs.length us.length M Tb (bs.length+Fm.ix us t)) b.ps<=Tb.bot*(M*wh b.lim (scl b)+(if b.st=true then -1 else 0)):=by omega
  exact_mod_cast this
 rw [lr] at key
 cases hst:b.st with
 |true=>
  rw [hst,if_pos rfl] at key;left;refine Rat.not_le.mp fun z=> ?_;have:=Rat.mul_le_mul_of_nonneg_left z (Rat.le_of_lt A0);simp only [Rat.intCast_add,Rat.intCast_mul,Rat.intCast_neg] at key this wr;rw [wr] at key;have o1:(((1:Int):Rat))=1:=rfl;rw [o1] at key;grind
 |false=>
  rw [hst,if_neg (by decide)] at key
  have le:lin (gw us G) b.ps<=rv b.lim:=by
   refine Rat.not_lt.mp fun z=> ?_;have:=Rat.mul_lt_mul_of_pos_left z A0;simp only [Rat.intCast_add,Rat.intCast_mul] at key this wr;rw [wr] at key;have o1:(((0:Int):Rat))=0:=rfl;rw [o1] at key;grind
  rcases Rat.le_iff_lt_or_eq.mp le with h|h
  . exact .inl h
  . exact .inr ⟨h,rfl⟩
noncomputable def sumL (F:Nat->Int):List (Nat×Int)->Int
 | []=>0
 |p::r=>p.2*F p.1+sumL F r
theorem pI (F:Nat->Int) (a b:List (Nat×Int)):sumL F (a++b)=sumL F a+sumL F b:=by
 induction a with
 |nil=>simp only [List.nil_append,sumL,zr]
 |cons p r ih=>simp only [z6,sumL,ih,Int.add_assoc]
theorem jB {F:Nat->Int} {T:Wg.Tb} {i:Nat}:∀n:Nat,sumL F (hcs n T i)=Wg.sumN n fun c=> -T.ln i c*F (T.hd c)
 |0=>rfl
 |n+1=>by
  have e:hcs (n+1) T i=hcs n T i++if T.ln i n≠0 then [(T.hd n,-T.ln i n)] else []:=by
   unfold hcs;rw [z9,yZ,yK];congr 1;by_cases z:T.ln i n=0
   . simp [z]
   . simp [z]
  rw [e,pI,jB n,Wg.sumN];congr 1;by_cases z:T.ln i n=0
  . rw [if_neg (by simpa using z),z]
    simp [sumL]
  . rw [if_pos z];simp [sumL]
theorem gu {m n:Nat} {L:Nat->Nat->Int} {T:Wg.Tb} (O:Okt m n L T) {i:Nat} (hi:i < m) (hs:T.sd i < m) (F:Nat->Int):sumL F (cnt n T i)=Wg.sumN m fun k=>Wg.wt n T i k*F k:=by
 rw [Wg.wt_sum O.pm O.st hi hs];unfold cnt;simp only [sumL];rw [jB]
theorem md {p:Fr} (h:0 < p.2):0 < rv p↔0 < p.1:=by
 have h2:(0:Rat) < (p.2:Rat):=by exact_mod_cast h
 unfold rv;constructor
 . intro q
   have:(0:Rat) < (p.1:Rat):=by
    have:=Rat.mul_pos q h2
    rwa [Rat.div_mul_cancel (by grind)] at this
   exact_mod_cast this
 . intro q;have q2:(0:Rat) < (p.1:Rat):=by exact_mod_cast q
   rw [Rat.div_def];exact Rat.mul_pos q2 (Rat.inv_pos.mpr h2)
structure Wts (bs:List Bnd) (wk:List Wt):Prop where
 ne:wk≠ []
 asc:wk.Pairwise fun a b=>a.1 < b.1
 lt:∀k∈wk,k.1 < bs.length
 sh:∀k∈wk,Sh k.2
 pos:∀k∈wk,0 < k.2.1
 tot:∀t,tot t (aR (bs.map ofB) wk)=0
 low:totR (bs.map ofB) wk < 0\/(totR (bs.map ofB) wk=0/\∃k∈wk,(bdAt (bs.map ofB) k.1).st=true)
theorem hZ {bs:List Bd} {t:Tr} {a b:List Wt} (h:a.Perm b):Su.tot t (aR bs a)=Su.tot t (aR bs b):=by
 induction h with
 |nil=>rfl
 |cons x _ ih=>simp only [aR,dP,ih]
 |swap x y l=>simp only [aR,dP];grind
 |trans _ _ h1 h2=>rw [h1,h2]
theorem og {bs:List Bd} {a b:List Wt} (h:a.Perm b):totR bs a=totR bs b:=by
 induction h with
 |nil=>rfl
 |cons x _ ih=>simp only [totR,ih]
 |swap x y l=>simp only [totR];grind
 |trans _ _ h1 h2=>rw [h1,h2]
theorem eV {bs:List Bnd} {k:Nat} {b:Bnd} (e:bs[k]?=some b):bdAt (bs.map ofB) k=ofB b:=by
 unfold bdAt;rw [yv,yo,e];rfl
theorem nA {bs:List Bnd} {us T:List Tr} {e:Nat} (hg:∀b∈bs,Gbd T e b) {g:Int} (g0:0 < g) {t:Tr} {c:Nat} (hc:us[c]?=some t):∀ {cs:List (Nat×Int)},(∀p∈cs,p.1 < bs.length)->
 Su.tot t (aR (bs.map ofB) (cs.map fun p=>(p.1,wf (bs.map scl) g p)))*(g:Rat)= -((sumL (fun k=>Lf bs us k c) cs:Int):Rat)
 | [],_=>by simp only [zH,aR,Su.tot,sumL];grind
 |p::r,h=>by
  have ih:=nA hg g0 hc (cs:=r) fun q m=>h q (ym _ m);have hp:=h p yn;have eb:bs[p.1]?=some bs[p.1]:=yj hp;have mb:=z5 hp;have gb:=hg _ mb;obtain ⟨s0,sd,_⟩:=gb.scl_ok;have es:(bs.map scl).getD p.1 0=scl bs[p.1]:=by rw [yv,yo,eb];rfl
  have shw:Sh (wf (bs.map scl) g p):=dh (by omega)
  have rw':rv (wf (bs.map scl) g p)=((p.2*scl bs[p.1]:Int):Rat) / (g:Rat):=by
   unfold wf;rw [iT g0,es]
  have cl:c < us.length:=(yt.mp hc).1
  have eL:Lf bs us p.1 c= -(cw (scl bs[p.1]) t bs[p.1].ps):=by
   rw [jb eb];unfold rowF;rw [if_pos cl,yv,hc];rfl
  have tc:=oX (s:=scl bs[p.1]) (t:=t) gb.asc fun q mq=>⟨(gb.ps q mq).2.gf.pos,sd q mq⟩;have gn:=cB g0;simp only [yG,aR,sumL];rw [dP,eV eb];show (Su.tot t (bs[p.1].ps.map (scale (wf (bs.map scl) g p)))+_)*_=_;rw [i7 t shw fun q mq=>(gb.ps q mq).2.sh,rw',eL];simp only [Rat.intCast_add,Rat.intCast_mul,Rat.intCast_neg];rw [tc];rw [Rat.div_def];grind
theorem lU {bs:List Bnd} {us T:List Tr} {e:Nat} (hg:∀b∈bs,Gbd T e b) {g:Int} (g0:0 < g):∀ {cs:List (Nat×Int)},(∀p∈cs,p.1 < bs.length)->
 totR (bs.map ofB) (cs.map fun p=>(p.1,wf (bs.map scl) g p))*(g:Rat)=((sumL (fun k=>Lf bs us k us.length) cs:Int):Rat)
 | [],_=>by simp only [zH,totR,sumL];grind
 |p::r,h=>by
  have ih:=lU (us:=us) hg g0 (cs:=r) fun q m=>h q (ym _ m);have hp:=h p yn;have eb:bs[p.1]?=some bs[p.1]:=yj hp;have gb:=hg _ (z5 hp);obtain ⟨s0,sd,ld⟩:=gb.scl_ok;have es:(bs.map scl).getD p.1 0=scl bs[p.1]:=by rw [yv,yo,eb];rfl
  have rw':rv (wf (bs.map scl) g p)=((p.2*scl bs[p.1]:Int):Rat) / (g:Rat):=by
   unfold wf;rw [iT g0,es]
  have eL:Lf bs us p.1 us.length=wh bs[p.1].lim (scl bs[p.1]):=by
   rw [jb eb];unfold rowF;rw [if_neg (by omega),if_pos rfl]
  have tc:=lS (s:=scl bs[p.1]) gb.lim.pos ld;have gn:=cB g0;simp only [yG,totR,sumL];rw [eV eb];show (rv bs[p.1].lim*_+_)*_=_;rw [rw',eL];simp only [Rat.intCast_add,Rat.intCast_mul];rw [tc,Rat.div_def];grind
theorem uY {bs:List Bnd} {us:List Tr}:∀ {cs:List (Nat×Int)},(∀p∈cs,p.1 < bs.length)->sumL (fun k=>Lf bs us k (us.length+1)) cs < 0->∃p∈cs,(bdAt (bs.map ofB) p.1).st=true
 | [],_,z=>absurd z (by simp [sumL])
 |p::r,h,z=>by
  have hp:=h p yn;have eb:bs[p.1]?=some bs[p.1]:=yj hp
  cases hst:bs[p.1].st with
  |true=>exact ⟨p,yn,by rw [eV eb];exact hst⟩
  |false=>
   have eL:Lf bs us p.1 (us.length+1)=0:=by
    rw [jb eb];unfold rowF;rw [if_neg (by omega),if_neg (by omega),hst]
    rfl
   simp only [sumL] at z;rw [eL,zw,zr] at z;obtain ⟨q,mq,hq⟩:=uY (fun q m=>h q (ym _ m)) z;exact ⟨q,ym _ mq,hq⟩
theorem xV {a b:Wt} (h:a.1 < b.1):ltT (wtT a) (wtT b)=true:=by
 rw [ltT_iff];simp only [wtT,Tre.code,codes,LtC,LtCs];left;omega
theorem uJ {m n:Nat} {L:Nat->Nat->Int} {T:Wg.Tb} (O:Okt m n L T) {i:Nat} (hle:∀c,c < n->T.ln i c<=0):∀p∈cnt n T i,0 < p.2:=by
 intro p mp;unfold cnt at mp;rcases yx.mp mp with rfl|mp
 . exact O.inv.pos
 . obtain ⟨c,hc,hz,rfl⟩:=j4 mp;have:=hle c hc;show 0 < -T.ln i c;omega
theorem xa {m n:Nat} {L:Nat->Nat->Int} {T:Wg.Tb} (O:Okt m n L T) {i:Nat} (hi:i < m):((cnt n T i).map (·.1)).Nodup:=by
 unfold cnt;rw [yG,zu];refine ⟨fun z=> ?_,?_⟩
 . obtain ⟨p,mp,e⟩:=yR.mp z;obtain ⟨c,hc,_,rfl⟩:=j4 mp;exact O.pm.disj hi hc e.symm
 . unfold hcs;rw [zI];show (List.map (fun c=>T.hd c) _).Nodup;rw [zz,List.pairwise_map];have:((List.range n).filter fun c=>decide (T.ln i c≠0)).Nodup:=List.nodup_range.filter _;rw [zz] at this;refine List.Pairwise.imp_of_mem (fun {a b} ma mb h z=>h ?_) this;have h1:=yX.mp (za.mp ma).1;have h2:=yX.mp (za.mp mb).1;exact O.pm.injh h1 h2 z
theorem WOut.wts {T0 l:Addr} {H H':Hp} {bs:List Bnd} {ws2:List V} {us2 us T:List Tr} {Tb:Wg.Tb} {i e C:Nat} (hg:∀b∈bs,Gbd T e b) (hW:Wb bs.length us.length (Lf bs us) (bs.map scl) C) (h:WOut T0 H H' bs l ws2 us2 us Tb i):
 ∃wk:List Wt,us2=wk.map wtT/\Wts bs wk/\wk.length<=us.length+1/\∀k∈wk,k.2.1.natAbs<=C*C/\k.2.2.natAbs<=C*C:=by
 refine hZq fun q_ e_=> ?_;obtain ⟨w1,w2,w3,w4⟩:=h.wt;obtain ⟨qs,rfl,pq⟩:=gG w3 rfl;have hcn:=hW.cnts h.ok h.hi h.hs;have hcl:=ni (n:=us.length) (T:=Tb) (i:=i);obtain ⟨g0,g1⟩:=hW.gcn (by rw [yi]) h.ok h.hi h.hs
 have cl:∀p∈cnt us.length Tb i,p.1 < bs.length:=fun p mp=>(hcn p mp).1;have cp:=uJ h.ok h.le
 have scm:∀p∈cnt us.length Tb i,0 < (bs.map scl).getD p.1 0/\((bs.map scl).getD p.1 0).natAbs<=C:=fun p mp=>by
  refine hW.sc _ ?_;rw [yv,yj (by rw [yi];exact cl p mp)]
  exact z5 _
 have mq:∀k∈qs,∃p∈cnt us.length Tb i,k=(p.1,wf (bs.map scl) (gcn (bs.map scl) (cnt us.length Tb i)) p):=fun k mk=>by
  have:=pq.mem_iff.mp mk;unfold K45.wts at this;obtain ⟨p,mp,e⟩:=yR.mp this;exact ⟨p,mp,e.symm⟩
 have posq:∀k∈qs,0 < k.2.1:=fun k mk=>by
  obtain ⟨p,mp,rfl⟩:=mq k mk;have sh:Sh (wf (bs.map scl) (gcn (bs.map scl) (cnt us.length Tb i)) p):=dh (by omega)
  refine (md sh.1).mp ?_;unfold wf;rw [iT g0,Rat.div_def];exact Rat.mul_pos (cE (zP (cp p mp) (scm p mp).1)) (Rat.inv_pos.mpr (cE g0))
 have ndq:(qs.map (·.1)).Nodup:=by
  rw [(pq.map (·.1)).nodup_iff];unfold K45.wts;rw [zI];exact xa h.ok h.hi
 have totP:∀t,Su.tot t (aR (bs.map ofB) qs)=0:=fun t=>by
  rw [hZ pq];unfold K45.wts;by_cases mu:t∈us
  . obtain ⟨c,hc,ec⟩:=zf mu;have ec':us[c]?=some t:=by rw [yj hc,ec]
    have f:=nA hg g0 ec' cl;rw [gu h.ok h.hi h.hs,Wg.wt_term h.ok.inv h.ok.pm h.ok.st h.hi h.hs hc] at f;have gn:=cB g0
    have:Su.tot t (aR (bs.map ofB) ((cnt us.length Tb i).map fun p=>(p.1,wf (bs.map scl) (gcn (bs.map scl) (cnt us.length Tb i)) p)))*(gcn (bs.map scl) (cnt us.length Tb i):Rat)=0:=by
     rw [f];rfl
    rcases Rat.mul_eq_zero.mp this with z|z
    . exact z
    . exact absurd z gn
  . refine dq fun p mp e=>mu ?_
    have fl:∀ {wk:List Wt},(∀k∈wk,k.1 < bs.length)->∀p∈aR (bs.map ofB) wk,∃b∈bs,∃q∈b.ps,q.1=p.1:=by
     intro wk
     induction wk with
     |nil=>intro _ p mp;cases mp
     |cons k r ih=>
      intro hk p mp;simp only [aR] at mp;rcases yN.mp mp with mp|mp
      . rw [eV (yj (hk k yn))] at mp;obtain ⟨q,mq',rfl⟩:=yR.mp mp;exact ⟨_,z5 _,q,mq',rfl⟩
      . exact ih (fun x m=>hk x (ym _ m)) p mp
    refine hZq fun q_ e_=> ?_;obtain ⟨b,mb,q,mq',eq⟩:=fl (fun k mk=>by obtain ⟨p,mp,rfl⟩:=yR.mp mk;exact cl p mp) p mp
    subst e_;exact (h.tm.2 t).mpr ⟨b,mb,q,mq',eq.trans e⟩
 obtain ⟨l1,l2⟩:=Wg.wt_last h.ok.inv h.ok.pm h.ok.st h.hi h.hs;subst e_;have fR:=lU (us:=us) hg g0 cl;rw [gu h.ok h.hi h.hs,l1] at fR;have eR:totR (bs.map ofB) qs=totR (bs.map ofB) ((cnt us.length Tb i).map fun p=>(p.1,wf (bs.map scl) (gcn (bs.map scl) (cnt us.length Tb i)) p)):=og pq;have gp:=cE g0
 have lenq:qs.length=(cnt us.length Tb i).length:=by
  rw [pq.length_eq];unfold K45.wts;rw [yi]
 refine ⟨qs,rfl,⟨?_,?_,fun k mk=> ?_,fun k mk=> ?_,posq,totP,?_⟩,?_,fun k mk=> ?_⟩
 . intro z;rw [z] at lenq;unfold cnt at lenq;simp at lenq
 . rw [zz,List.pairwise_map] at ndq;rw [zd] at ndq ⊢;intro a b ha hb hab;have ne:=ndq a b ha hb hab;have le:=w4 a b (wtT qs[a]) (wtT qs[b]) (by omega) (by rw [yo,yj ha];rfl) (by rw [yo,yj hb];rfl)
   refine Classical.byContradiction fun z=> ?_;have:=xV (a:=qs[b]) (b:=qs[a]) (by omega)
   rw [this] at le;cases le
 . obtain ⟨p,mp,rfl⟩:=mq k mk;exact cl p mp
 . obtain ⟨p,mp,rfl⟩:=mq k mk;exact dh (by omega)
 . rcases h.ng with z|⟨z1,z2⟩
   . left;rw [eR];refine Rat.not_le.mp fun y=> ?_;have y2:=Rat.mul_nonneg y (Rat.le_of_lt gp);rw [fR] at y2;have:(0:Int)<=Tb.ln i us.length:=by exact_mod_cast y2
     omega
   . right;rw [z1] at fR;refine ⟨?_,?_⟩
     . rw [eR];rcases Rat.mul_eq_zero.mp (fR.trans rfl) with y|y
       . exact y
       . exact absurd y (cB g0)
     . obtain ⟨p,mp,hp⟩:=uY (us:=us) cl (by rw [gu h.ok h.hi h.hs,l2];exact z2)
       refine ⟨(p.1,wf (bs.map scl) (gcn (bs.map scl) (cnt us.length Tb i)) p),?_,hp⟩;rw [pq.mem_iff];unfold K45.wts;exact yR.mpr ⟨p,mp,rfl⟩
 . rw [lenq];unfold cnt;rw [yH];omega
 . obtain ⟨p,mp,rfl⟩:=mq k mk;obtain ⟨pm,pb⟩:=hcn p mp
   have d0:0 < dv (p.2*(bs.map scl).getD p.1 0) (gcn (bs.map scl) (cnt us.length Tb i)):=by
    have:=yU (p.2*(bs.map scl).getD p.1 0) (show gcn (bs.map scl) (cnt us.length Tb i)≠0 by omega)
    unfold dv;rw [if_neg (by omega)]
    omega
   refine ⟨?_,?_⟩
   . show (fx _ _).natAbs<=C*C;unfold fx;rw [z4 _ (by omega)]
     refine yC (cA _ _) ?_;rw [yT];exact zM pb (scm p mp).2
   . show (fy _ _).natAbs<=C*C;unfold fy;rw [z4 _ (by omega)]
     exact yC (cA _ _) g1
end
end K45
namespace K45
open PySem L2 Mth Tre
theorem sZ {ns:List Int} {i:Int} (h0:0<=i) (h1:i < ns.length):∃(z:Int),atI (ns.map V.int) i=some (.int z)/\z=ns.getD i.toNat 0:=by
 obtain ⟨j,rfl⟩:∃j:Nat,i=(j:Int):=⟨i.toNat,by omega⟩
 have hj:j < ns.length:=by omega
 exact ⟨ns[j],aw (by rw [yo,yj hj];rfl),by rw [zp,yv,yj hj];rfl⟩
noncomputable def uZ (z kk m:Int):Int:=(z%1000003+31*kk*kk+1)*48271%999983*7919%524287%m
noncomputable def sG (ns:List Int) (kk m:Int):Int:=
 if ns.length=0 then uZ 0 kk m else if ns.getD 0 0%2=1 then ns.getD (kk%(ns.length:Int)).toNat 0 / 2^(20*(kk / (ns.length:Int))+1).toNat%1048576%m else uZ (ns.getD (kk%(ns.length:Int)).toNat 0) kk m
theorem gg {m:Int} (h0:0<=m) (h:m<=1000000000000):Big m:=by
 unfold Big;have:(1000000000000:Nat) < 2^8000:=by decide +kernel
 exact yM (by omega) this
section
variable {P:Program} {w:World} {K:PySem.W.Frag} {mg:Str->Option Value} {base:Heap} {T0:Addr}
def f6 (K:PySem.W.Frag):Sp:=fun vs H Q _=>∃(a:Addr) (ns:List Int) (kk m:Int),vs= [.ref a, .int kk, .int m]/\SqL K H a (ns.map V.int)/\ns.length<=63/\0<=kk/\kk<=100000/\0 < m/\∀r:Int,0<=r->r < m->r=sG ns kk m->Q (.int r) H
theorem scD:FnScope ["_law_script","_law_k","_law_many","_law_cell","_law_seed"] ["_law_script","_law_k","_law_many"] (af qA):= .of
theorem uo {f:Addr} {fd:FuncData} (F:Fun K "_law_draw" "_law_draw" qA f fd) (B:Blt mg):FnOk P w K mg base CX0 1 f fd ["_law_script","_law_k","_law_many"] (f6 K):=by
 refine F.okb scD fun vs H Q E h=> ?_;refine hZq fun q_ e_=> ?_;obtain ⟨a,ns,kk,m,rfl,hS,h63,k0,k5,m0,k⟩:=h;subst e_;refine ⟨rfl,fun cdv A outer s hr=> ?_⟩
 refine ⟨_,ac (psA 3 scD.nd (dy (aG eN (av ao rfl B.le PySem.boot_len (a0 (pv 0) a9)) ad (aA _))
  (am aq (pv 0) (ak cH (pv 1) (av ao rfl B.le PySem.boot_len (a0 (pv 0) a9))) fun _ _=>rfl) ad))
  (ac (cj (PW.pt (iV (aG eN (av ao rfl B.le PySem.boot_len (a0 (pv 0) a9)) ad (aA _)) (fY (aG cD (ak cH (am aq (pv 0) ad fun _ _=>rfl) ad) ad (aA _)))))
   (ah (az (ak cH (ak cH (ak vV (pv 3) (ak aW (ak j0 ad (ak uh (pv 1) (av ao rfl B.le PySem.boot_len (a0 (pv 0) a9)))) ad)) ad) (pv 2)))) aU)
  (ac (psA 4 scD.nd (ak aW (ak aW (ak cH (pv 3) ad) (ak aO (ak j0 ad (pv 1)) (pv 1))) ad))
  (ah (az (ak cH (ak cH (ak j0 (ak cH (ak j0 (pv 4) ad) ad) ad) ad) (pv 2)))))),?_⟩
 by_cases z0:ns.length=0
 . have e0:ns= []:=List.length_eq_zero_iff.mp z0;subst e0;refine ⟨_,rfl,a,_,rfl, .inl hS,_,0,rfl,rfl,_,rfl,?_⟩;refine iteF ?_;refine ⟨_,rfl,a,_,rfl, .inl hS,_,0,rfl,rfl,_,rfl,?_⟩;refine iteF ?_;refine iteF ?_;refine ⟨_,rfl,0,1000003,rfl,rfl,(by show (0:Int) < 1000003;decide),_,rfl,31,kk,rfl,rfl, .inl ⟨by decide,by decide⟩,_,rfl,_,kk,rfl,rfl,⟨gg (by omega) (by omega),gg k0 (by omega)⟩,_,_,rfl,rfl,_,_,rfl,rfl,?_⟩
   refine ⟨_,rfl,_,48271,rfl,rfl, .inr ⟨by decide,by decide⟩,_,999983,rfl,rfl,(by show (0:Int) < 999983;decide),_,7919,rfl,rfl, .inr ⟨by decide,by decide⟩,_,524287,rfl,rfl,(by show (0:Int) < 524287;decide),_,rfl,_,m,rfl,rfl,m0,?_⟩
   exact k _ (Int.emod_nonneg _ (by omega)) (Int.emod_lt_of_pos _ m0) rfl
 . have lp:(0:Int) < (ns.length:Int):=by omega
   refine hZq fun q_ e_=> ?_;obtain ⟨z,hz,ez⟩:=sZ (ns:=ns) (i:=kk%(ns.length:Int)) (Int.emod_nonneg _ (by omega)) (Int.emod_lt_of_pos _ lp)
   obtain ⟨y,hy,ey⟩:=sZ (ns:=ns) (i:=0) (by omega) lp
   subst e_;have g0:decide ((0:Int) < (ns.length:Int))=true:=decide_eq_true lp;refine ⟨_,rfl,a,_,rfl, .inl hS,_,0,rfl,rfl,_,rfl,?_⟩;rw [yi,g0];refine iteT ?_;refine ⟨_,rfl,_,rfl,_,rfl,a,_,rfl, .inl hS,kk,_,rfl,rfl,(by rw [yi];omega),a,_,kk%(ns.length:Int), .int z,rfl,(by rw [yi]),hS,hz,?_⟩
   refine ⟨_,rfl,a,_,rfl, .inl hS,_,0,rfl,rfl,_,rfl,?_⟩;rw [yi,g0];refine iteT ?_;refine ⟨_,rfl,a,_,0, .int y,rfl,rfl,hS,hy,_,2,rfl,rfl,(by show (0:Int) < 2;decide),rfl,_,rfl,?_⟩
   refine ite2 (fun hd=> ?_) (fun hd=> ?_)
   . have hb:ns.getD 0 0%2=1:=by
      have:=of_decide_eq_true hd;rw [<-show y=ns.getD 0 0 from ey];exact V.int.inj this
     refine ⟨_,rfl,_,rfl,_,rfl,a,_,rfl, .inl hS,kk,_,rfl,rfl,⟨by rw [yi];omega,by rw [yi];omega⟩,20,_,rfl,rfl, .inl ⟨by decide,by decide⟩,_,1,rfl,rfl,z,_,rfl,rfl,?_,_,1048576,rfl,rfl,(by show (0:Int) < 1048576;decide),_,rfl,_,m,rfl,rfl,m0,?_⟩
     . have:=Int.ediv_nonneg k0 (b:=((ns.map V.int).length:Int)) (by omega)
       omega
     . exact k _ (Int.emod_nonneg _ (by omega)) (Int.emod_lt_of_pos _ m0) (by subst ez;unfold sG;rw [if_neg z0,if_pos hb,yi])
   . have hb:¬ns.getD 0 0%2=1:=by
      rw [<-show y=ns.getD 0 0 from ey];exact fun q=>hd (decide_eq_true (congrArg V.int q))
     refine ⟨_,rfl,z,1000003,rfl,rfl,(by show (0:Int) < 1000003;decide),_,rfl,31,kk,rfl,rfl, .inl ⟨by decide,by decide⟩,_,rfl,_,kk,rfl,rfl,⟨gg (by omega) (by omega),gg k0 (by omega)⟩,_,_,rfl,rfl,_,_,rfl,rfl,?_⟩
     refine ⟨_,rfl,_,48271,rfl,rfl, .inr ⟨by decide,by decide⟩,_,999983,rfl,rfl,(by show (0:Int) < 999983;decide),_,7919,rfl,rfl, .inr ⟨by decide,by decide⟩,_,524287,rfl,rfl,(by show (0:Int) < 524287;decide),_,rfl,_,m,rfl,rfl,m0,?_⟩
     exact k _ (Int.emod_nonneg _ (by omega)) (Int.emod_lt_of_pos _ m0) (by subst ez;unfold sG;rw [if_neg z0,if_neg hb];rfl)
end
end K45
namespace L2
open PySem Tre
section
variable {X:Cx}
theorem PE.imp {e:Expr} {t u:TE} (h:PE X e t) (k:∀σ H Q,u σ H Q->t σ H Q):PE X e u:=fun pins s σ H Q I q=>h pins s σ H Q I (k σ H Q q)
theorem PA.imp {es:List Expr} {t u:TA} (h:PA X es t) (k:∀σ H Q,u σ H Q->t σ H Q):PA X es u:=fun pos pins s σ H Q I q=>h pos pins s σ H Q I (k σ H Q q)
theorem Same.none {H H':Hp} {p:Addr} (s:Same H H') (h:H' p=none):H p=none:=by
 cases e:H p with
 |none=>rfl
 |some o=>rw [s p o e] at h;cases h
end
end L2
namespace K45
open PySem L2 Mth Tre Wd Su
noncomputable def letS (k:Nat):Str:=⟨#[97+k]⟩
noncomputable def nmk (k:Nat):Tr:= .tup [.str (Str.ofString "name"), .str (letS k)]
noncomputable def fmk (k:Nat):Tr:= .tup [.str (Str.ofString "call"), .str (Str.ofString "f"), .tup [nmk k]]
noncomputable def tmk (j k:Nat):Tr:=if k < j then fmk k else nmk k
noncomputable def TL (n j:Nat):List Tr:=(List.range n).map (tmk j)
theorem rO {a b:Nat} (h:letS a=letS b):a=b:=by
 unfold letS at h;have:=congrArg (fun s:Str=>s.cps.toList) h;simp at this;exact this
theorem mG {a b:Nat} (h:nmk a=nmk b):a=b:=by
 unfold nmk at h;injection h with h;injection h with _ h;injection h with h _;injection h with h;exact rO h
theorem lV {j a b:Nat} (h:tmk j a=tmk j b):a=b:=by
 unfold tmk at h;by_cases x:a < j
 . by_cases y:b < j
   . rw [if_pos x,if_pos y] at h;unfold fmk at h;injection h with h;injection h with _ h;injection h with _ h;injection h with h _;injection h with h;injection h with h _;exact mG h
   . rw [if_pos x,if_neg y] at h;unfold fmk nmk at h;injection h with h;injection h with _ h;injection h with _ h;cases h
 . by_cases y:b < j
   . rw [if_neg x,if_pos y] at h;unfold fmk nmk at h;injection h with h;injection h with _ h;injection h with _ h;cases h
   . rw [if_neg x,if_neg y] at h;exact mG h
theorem cf {n j:Nat}:(TL n j).length=n:=by unfold TL;rw [yi,z7]
theorem eX {n j k:Nat} (h:k < n):(TL n j)[k]?=some (tmk j k):=by
 unfold TL;rw [yo,List.getElem?_range h];rfl
theorem hE {n j k:Nat} (h:k < n):tmk j k∈TL n j:=yq (eX h)
theorem rF {k:Nat} (h:k < 26):Tw.Nm (letS k):=⟨by show 0 < 1;decide,by show 1<=8;decide,fun c m=>by
 have:c=97+k:=by
  unfold letS at m;simpa using m
 show 97<=c/\c<=122
 omega⟩
theorem nm_f:Tw.Nm (Str.ofString "f"):=by
 refine ⟨by decide +kernel,by decide +kernel,fun c m=> ?_⟩
 have h:((Str.ofString "f").cps.toList.all fun c=>decide (97<=c/\c<=122))=true:=by decide +kernel
 have:=List.all_eq_true.mp h c m;show 97<=c/\c<=122;exact of_decide_eq_true this
theorem p5 {j k:Nat} (h:k < 26):Fm.Gt (tmk j k):=by
 unfold tmk;split
 . refine .ap _ _ nm_f (by show 0 < 1;decide) (by show 1<=3;decide) fun t m=> ?_
   rw [yD.mp m];exact .nm _ (rF h)
 . exact .nm _ (rF h)
theorem tM {j k:Nat}:(tmk j k).depth<=7:=by
 unfold tmk;split
 . simp [fmk,nmk,Tr.depth,Trs.depth]
 . simp [nmk,Tr.depth,Trs.depth]
theorem tL {j k:Nat}:(Tw.tmC (tmk j k)).length<=1000:=by
 have h1:(Dec.cl (letS k)).length=1:=by unfold letS Dec.cl;rfl
 have h2:(Dec.cl (Str.ofString "f")).length<=1:=by decide +kernel
 unfold tmk;split
 . unfold fmk nmk;simp only [Tw.tmC,Tw.tmK,Tw.tmsC,yI,yH,List.length_nil];omega
 . unfold nmk;simp only [Tw.tmC];omega
section
variable {P:Program} {w:World} {K:PySem.W.Frag} {mg:Str->Option Value} {base:Heap} {T0:Addr}
def kK (K:PySem.W.Frag):Sp:=fun vs H Q _=>∃(p q:Addr) (a b c d:Int),vs= [.ref p, .ref q]/\SqT K H p [.int a, .int b]/\SqT K H q [.int c, .int d]/\Big a/\Big b/\Big c/\Big d/\Q (.int (a*d - c*b)) H
theorem scOv:FnScope ["_law_one","_law_other"] ["_law_one","_law_other"] (af qw):= .of
theorem uk {f:Addr} {fd:FuncData} (F:Fun K "_law_over" "_law_over" qw f fd):FnOk P w K mg base CX0 1 f fd ["_law_one","_law_other"] (kK K):=by
 refine F.okb scOv fun vs H Q E h=> ?_;refine hZq fun q_ e_=> ?_;obtain ⟨p,q,a,b,c,d,rfl,hp,hq,ba,bb,bc,bd,k⟩:=h;subst e_;refine ⟨rfl,fun cdv A outer s hr=> ?_⟩;refine ⟨_,ah (az (ak fg (ak aO (am aH (pv 0) ad fun _ _=>rfl) (am aH (pv 1) ad fun _ _=>rfl)) (ak aO (am aH (pv 1) ad fun _ _=>rfl) (am aH (pv 0) ad fun _ _=>rfl)))),?_⟩;exact ⟨_,rfl,p,_,0, .int a,rfl,rfl,hp,rfl,_,rfl,q,_,1, .int d,rfl,rfl,hq,rfl,_,_,rfl,rfl,⟨ba,bd⟩,_,rfl,q,_,0, .int c,rfl,rfl,hq,rfl,_,rfl,p,_,1, .int b,rfl,rfl,hp,rfl,_,_,rfl,rfl,⟨bc,bb⟩,_,_,rfl,rfl,k⟩
def iO (K:PySem.W.Frag):Sp:=fun vs H Q _=>∃(a:Addr) (ns:List Int),vs= [.ref a]/\SqL K H a (ns.map V.int)/\ns.length<=63/\
 ∀(l:Addr) (ws:List V) (n j:Nat) (H':Hp),Same H H'->H l=none->H' l=some (.lst ws)->TrsAt H' ws (TL n j)->6<=n->n<=9->j<=2->Q (.ref l) H'
theorem scTs:FnScope ["_law_script","_law_k","_law_some"] ["_law_script"] (af kU):= .of
theorem tj {k:Nat} (h:k < 9):(Str.ofString "abcdefghi").cps.toList[k]?=some (97+k):=by
 have:∀i:Fin 9,(Str.ofString "abcdefghi").cps.toList[i.val]?=some (97+i.val):=by decide +kernel
 exact this ⟨k,h⟩
theorem rq {f fD:Addr} {fd dD:FuncData} (F:Fun K "_law_terms" "_law_terms" kU f fd) (B:Blt mg)
 (gD:FnOk P w K mg base CX0 1 fD dD ["_law_script","_law_k","_law_many"] (f6 K)) (kD:PySem.W.keepIn K (.ref fD)=true) (bD:Binds K dD ["_law_script","_law_k","_law_many"] []) (mD:mg "_law_draw"=some (.ref fD)):FnOk P w K mg base CX0 2 f fd ["_law_script"] (iO K):=by
 refine F.okb scTs fun vs H Q E h=> ?_;refine hZq fun q_ e_=> ?_;obtain ⟨a,ns,rfl,hS,h63,k⟩:=h;subst e_;refine ⟨rfl,fun cdv A outer s hr=> ?_⟩;have nd1:(["_law_k"]:List Str).Nodup:=by decide +kernel
 refine ⟨_,ac (eM (i:=2) (NC:= ["_law_k"]) (mp:= [none]) rfl scTs.nd rfl rfl rfl (bP rfl B.ra (a0 (ak aW ad (ai gD hr rfl mD kD bD .nil ax (a0 (pv 0) (a0 ad (a0 ad a9))))) a9)) (fun _ _ _ _ _=>pgA 0 nd1) (fun _ _ _ _ _=>aS)
  (fun _ _ _ _ _=>aK (a0 bK (a0 (am rW bK (pv 0) fun _ _=>rfl) a9))))
  (ac (bZ PassesOwn.never rfl (bP rfl B.ra (a0 (ai gD hr rfl mD kD bD .nil ax (a0 (pv 0) (a0 ad (a0 ad a9)))) a9)) (pgA 1 scTs.nd)
   (ah (e5 (aK (a0 bK (a0 bK (a0 (aK (a0 (aK (a0 bK (a0 (am rW bK (pv 1) fun _ _=>rfl) a9))) a9)) a9)))) (fe (pv 2) (pv 1) cS))))
  (ah (az (pv 2)))),?_⟩
 have hL20:(20000:Nat)<=sizeLine:=by decide +kernel
 have l9:(Str.ofString "abcdefghi").length<=sizeLine:=by decide +kernel
 refine dR ?_;refine bV rfl ?_;refine ⟨_,rfl,a,ns,1,4,rfl,hS,h63,by decide,by decide,by decide,fun r0 r00 r04 _=> ?_⟩
 obtain ⟨nb,rfl⟩:∃nb:Nat,r0=(nb:Int):=⟨r0.toNat,by omega⟩
 refine ⟨6,(nb:Int),rfl,rfl,6+(nb:Int),rfl,by omega,by omega,fun L nL=> ?_⟩
 rw [show (6+(nb:Int)).toNat=nb+6 by omega]
 refine gU (n:=nb+6) (fun j acc H'=>Same H H'/\H' L=some (.lst acc)/\TrsAt H' acc (TL j 0)) ⟨aa nL,a8, .nil⟩ ?_ ?_
 . rintro j acc H' hj ⟨s2,hL,hA⟩;rw [zr];refine ⟨_,rfl,Str.ofString "abcdefghi",(j:Int),97+j,rfl,rfl,l9,aw (tj (by omega)),two,fun p np=> ?_⟩
   have sp:=aa (o:= .tup [.str (Str.ofString "name"), .str (letS j)]) np;have hL2:=sp _ _ hL;have al:=hA.len;rw [cf] at al;have kd:=(Kd.of_same sp).trans (Kd.upd (ys:=acc++ [.ref p]) hL2);have nLp:p≠L:=fun z=>by rw [z,hL] at np;cases np
   refine CompN.mk hj (by omega) hL2 ⟨aF nL (s2.trans sp),a8,?_⟩
   have e:TL (j+1) 0=TL j 0++ [nmk j]:=by
    unfold TL;rw [z9,yK];rfl
   rw [e];exact TrsAt.app (.cons (dM ((ae nLp).trans a8) (.cons (by unfold TrAt;rfl) (.cons (by unfold TrAt;rfl) .nil))) .nil) (hA.mono kd)
 rintro acc H2 ⟨s2,hL,hA⟩;have al:=hA.len;rw [cf] at al;refine ag ?_;refine ⟨_,rfl,a,ns,2,3,rfl,SqL.same s2 hS,h63,by decide,by decide,by decide,fun r1 r10 r13 _=> ?_⟩
 obtain ⟨nj,rfl⟩:∃nj:Nat,r1=(nj:Int):=⟨r1.toNat,by omega⟩
 refine ⟨(nj:Int),rfl,by omega,by omega,?_⟩
 rw [zp];refine cW (n:=nj) (fun i σ H'=>Same H H'/\∃(v1:Option V) (acc:List V),σ= [some (.ref a),v1,some (.ref L)]/\H' L=some (.lst acc)/\TrsAt H' acc (TL (nb+6) i)) ⟨s2,none,acc,rfl,hL,hA⟩ ?_ ?_
 . intro i σ H3 hi z_;refine hZq fun q_ e_=> ?_;obtain ⟨s3,v1,acc,rfl,hL3,hA3⟩:=z_;subst e_;rw [zr];refine ag ?_;dsimp only;have al3:=hA3.len;rw [cf] at al3;refine ⟨_,rfl,Str.ofString "abcdefghi",(i:Int),97+i,rfl,rfl,l9,aw (tj (by omega)),two,fun p1 np1=> ?_⟩
   have t1:=aa (o:= .tup [.str (Str.ofString "name"), .str (letS i)]) np1;refine ⟨by show 1<=sizeLine;decide,fun p2 np2=> ?_⟩
   change (upd H3 p1 (.tup [.str (Str.ofString "name"), .str (letS i)])) p2=none at np2;have t2:=aa (o:= .tup [.ref p1]) np2;refine ⟨by show 3<=sizeLine;decide,fun p3 np3=> ?_⟩
   change (upd (upd H3 p1 (.tup [.str (Str.ofString "name"), .str (letS i)])) p2 (.tup [.ref p1])) p3=none at np3;have t3:=aa (o:= .tup [.str (Str.ofString "call"), .str (Str.ofString "f"), .ref p2]) np3;have hL4:=(t1.trans (t2.trans t3)) _ _ hL3;refine ⟨_,rfl,_,rfl,L,acc,(i:Int),i,rfl,rfl,hL4,?_,?_⟩
   . unfold ixN;rw [if_pos (by omega),if_pos (by omega)]
     simp
   have kd:=(Kd.of_same (t1.trans (t2.trans t3))).trans (Kd.upd (ys:=acc.set i (.ref p3)) hL4);have n1:p1≠L:=fun z=>by rw [z,hL3] at np1;cases np1
   have n2:p2≠L:=fun z=>by rw [z,t1 _ _ hL3] at np2;cases np2
   have n3:p3≠L:=fun z=>by rw [z,(t1.trans t2) _ _ hL3] at np3;cases np3
   refine ⟨aF nL (s3.trans (t1.trans (t2.trans t3))),_,_,rfl,a8,?_⟩
   have e:TL (nb+6) (i+1)=(TL (nb+6) i).set i (fmk i):=by
    refine zQ fun x=> ?_;rw [List.getElem?_set,cf];by_cases hx:x < nb+6
    . rw [eX hx,eX hx];by_cases hxi:i=x
      . subst hxi;rw [if_pos rfl,if_pos hx];unfold tmk;rw [if_pos (by omega)]
      . rw [if_neg hxi];congr 1;unfold tmk;by_cases hlt:x < i
        . rw [if_pos hlt,if_pos (by omega)]
        . rw [if_neg hlt,if_neg (by omega)]
    . rw [zb (by rw [cf];omega),zb (by rw [cf];omega)]
      by_cases hxi:i=x
      . rw [if_pos hxi,if_neg (by omega)]
      . rw [if_neg hxi]
   rw [e];refine TrsAt.set ?_ (hA3.mono kd)
   have a1:TrAt (upd (upd (upd (upd H3 p1 (.tup [.str (Str.ofString "name"), .str (letS i)])) p2 (.tup [.ref p1])) p3 (.tup [.str (Str.ofString "call"), .str (Str.ofString "f"), .ref p2])) L (.lst (acc.set i (.ref p3)))) (.ref p1) (nmk i):=
    dM ((ae n1).trans ((t2.trans t3) _ _ a8)) (.cons (by unfold TrAt;rfl) (.cons (by unfold TrAt;rfl) .nil))
   have a2:=dM (ts:= [nmk i]) ((ae n2 (H:=upd (upd (upd H3 p1 (.tup [.str (Str.ofString "name"), .str (letS i)])) p2 (.tup [.ref p1])) p3 (.tup [.str (Str.ofString "call"), .str (Str.ofString "f"), .ref p2])) (o:= .lst (acc.set i (.ref p3)))).trans (t3 _ _ a8)) (.cons a1 .nil);exact dM ((ae n3).trans a8) (.cons (by unfold TrAt;rfl) (.cons (by unfold TrAt;rfl) (.cons a2 .nil)))
 . intro σ H3 z_;refine hZq fun q_ e_=> ?_;obtain ⟨s3,v1,acc,rfl,hL3,hA3⟩:=z_;subst e_;exact ⟨_,rfl,k L acc (nb+6) nj H3 s3 nL hL3 hA3 (by omega) (by omega) (by omega)⟩
theorem xg {qs ps:List Pq} (pm:qs.Perm ps) (nd:(ps.map (·.1)).Nodup) (ty:∀p∈ps,Ty .tm p.1) (hr:∀(i j:Nat) (p q:Pq),i<=j->qs[i]?=some p->qs[j]?=some q->ltT (prT q) (prT p)=false):Asc qs:=by
 have ndq:(qs.map (·.1)).Nodup:=by
  rw [(pm.map (·.1)).nodup_iff];exact nd
 unfold Asc;rw [zd];intro i j hi hj hij;have le:=ux (hr i j _ _ (by omega) (yj hi) (yj hj))
 refine vh le ?_
 cases q:eqT (qs[i]).1 (qs[j]).1 with
 |false=>rfl
 |true=>
  have e:=uS (ty _ (pm.mem_iff.mp (z5 hi))) (ty _ (pm.mem_iff.mp (z5 hj))) q;have n:=zz.mp ndq;rw [zd] at n;exact absurd (by rw [List.getElem_map,List.getElem_map];exact e) (n i j (by rw [yi];exact hi) (by rw [yi];exact hj) hij)
structure Ub (n j:Nat) (b:Bnd):Prop where
 asc:Asc b.ps
 mem:∀p∈b.ps,p.1∈TL n j
 sh:∀p∈b.ps,p.2=(1,1)\/p.2=(-1,1)
 l2:b.ps.length<=2
 m2:b.lim.2=1
 m1:b.lim.1.natAbs<=9
theorem tw {n j:Nat} {t:Tr} (h:t∈TL n j):∃k,k < n/\t=tmk j k:=by
 unfold TL at h;obtain ⟨k,hk,rfl⟩:=yR.mp h;exact ⟨k,yX.mp hk,rfl⟩
theorem iC {n j:Nat} (h9:n<=9) {t:Tr} (h:t∈TL n j):Ty .tm t/\t.depth<=7:=by
 obtain ⟨k,hk,rfl⟩:=tw h;exact ⟨(p5 (by omega)).ty,tM⟩
theorem pm1 {f:Fr} (h:f=(1,1)\/f=(-1,1)):Sh f/\Gf 5 f:=by
 rcases h with rfl|rfl
 . exact ⟨⟨by decide,by decide⟩,by decide,by show (1:Nat) < 2^5;decide,by show (1:Nat) < 2^5;decide⟩
 . exact ⟨⟨by decide,by decide⟩,by decide,by show (1:Nat) < 2^5;decide,by show (1:Nat) < 2^5;decide⟩
structure Prs (n j:Nat) (ps:List Pq):Prop where
 mem:∀p∈ps,p.1∈TL n j
 sh:∀p∈ps,p.2=(1,1)\/p.2=(-1,1)
 nd:(ps.map (·.1)).Nodup
 l2:ps.length<=2
theorem Prs.gq {n j:Nat} {ps:List Pq} (h9:n<=9) (h:Prs n j ps):∀p∈ps,Gq 5 p:=fun p mp=>by
 obtain ⟨a,b⟩:=iC h9 (h.mem p mp);obtain ⟨c,d⟩:=pm1 (h.sh p mp);exact ⟨a,b,d,c⟩
theorem Prs.ty {n j:Nat} {ps:List Pq} (h9:n<=9) (h:Prs n j ps):∀t∈ps.map prT,Ty .pr t/\t.depth<=8:=fun t m=>by
 obtain ⟨p,mp,rfl⟩:=yR.mp m;exact (h.gq h9 p mp).pr
theorem Prs.ub {n j:Nat} {ps qs:List Pq} (h9:n<=9) (h:Prs n j ps) (pq:qs.Perm ps) (hr:∀(i j:Nat) (t u:Tr),i<=j->(qs.map prT)[i]?=some t->(qs.map prT)[j]?=some u->ltT u t=false) {m:Int} (hm:m.natAbs<=9) (st:Bool):Ub n j ⟨qs,(m,1),st⟩:=by
 refine ⟨xg pq h.nd (fun p m=>(h.gq h9 p m).ty) fun i j p q hij e1 e2=>hr i j _ _ hij (by rw [yo,e1];rfl) (by rw [yo,e2];rfl),fun p mp=>h.mem p (pq.mem_iff.mp mp),fun p mp=>h.sh p (pq.mem_iff.mp mp),?_,rfl,hm⟩
 show qs.length<=2;rw [pq.length_eq];exact h.l2
theorem f9 {H:Hp} {xt:V} {t:Tr} (h:TrAt H xt t) {p1 p2:Addr} {s:Int} (n1:H p1=none) (n2:upd H p1 (.tup [.int s, .int 1]) p2=none):Same H (upd (upd H p1 (.tup [.int s, .int 1])) p2 (.tup [xt, .ref p1]))/\TrAt (upd (upd H p1 (.tup [.int s, .int 1])) p2 (.tup [xt, .ref p1])) (.ref p2) (prT (t,(s,1))):=by
 have t1:=aa (o:= .tup [.int s, .int 1]) n1;have t2:=aa (o:= .tup [xt, .ref p1]) n2;exact ⟨t1.trans t2,di (a:=t) (b:=frT (s,1)) a8 (h.mono (Kd.of_same (t1.trans t2))) (jt (t2 _ _ a8))⟩
def gy (K:PySem.W.Frag):Sp:=fun vs H Q _=>∃(a:Addr) (ns:List Int) (l:Addr) (ws:List V) (n j:Nat),vs= [.ref a, .ref l]/\SqL K H a (ns.map V.int)/\ns.length<=63/\H l=some (.lst ws)/\TrsAt H ws (TL n j)/\6<=n/\n<=9/\
 ∀(lb:Addr) (bvs:List V) (bs:List Bnd) (H':Hp),Same H H'->H lb=none->H' lb=some (.lst bvs)->TrsAt H' bvs (bs.map bdT)->(∀b∈bs,Ub n j b)->10<=bs.length->bs.length<=24->Q (.ref lb) H'
noncomputable def nBo:List Str:= ["_law_script","_law_terms_here","_law_bounds_here","_law_k","_law_one","_law_other","_law_pairs","_law_way","_law_most"]
theorem scBo:FnScope nBo ["_law_script","_law_terms_here"] (af iS):= .of
theorem on {f fD:Addr} {fd dD:FuncData} (F:Fun K "_law_bounds" "_law_bounds" iS f fd) (B:Blt mg)
 (gD:FnOk P w K mg base CX0 1 fD dD ["_law_script","_law_k","_law_many"] (f6 K)) (kD:PySem.W.keepIn K (.ref fD)=true) (bD:Binds K dD ["_law_script","_law_k","_law_many"] []) (mD:mg "_law_draw"=some (.ref fD)):FnOk P w K mg base CX0 2 f fd ["_law_script","_law_terms_here"] (gy K):=by
 refine F.okb scBo fun vs H Q E h=> ?_;refine hZq fun q_ e_=> ?_;obtain ⟨a,ns,l,ws,n,j,rfl,hS,h63,hl,hT,n6,n9,k⟩:=h;subst e_;refine ⟨rfl,fun cdv A outer s hr=> ?_⟩;have hun:=hr.units;have hu60:=yM (zx (show 60<=64 by decide) _) hun
 refine ⟨_,ac (psA 2 scBo.nd (bu a9))
  (ac (bZ PassesOwn.never rfl (bP rfl B.ra (a0 (ak aW ad (ai gD hr rfl mD kD bD .nil ax (a0 (pv 0) (a0 ad (a0 ad a9))))) a9)) (pgA 3 scBo.nd)
   (ac (psA 4 scBo.nd (ai gD hr rfl mD kD bD .nil ax (a0 (pv 0) (a0 (ak aW ad (pv 3)) (a0 (av ao rfl B.le PySem.boot_len (a0 (pv 1) a9)) a9)))))
   (ac (psA 5 scBo.nd (ak cH (ak aW (ak aW (pv 4) ad) (ai gD hr rfl mD kD bD .nil ax (a0 (pv 0) (a0 (ak aW ad (pv 3)) (a0 (ak fg (av ao rfl B.le PySem.boot_len (a0 (pv 1) a9)) ad) a9))))) (av ao rfl B.le PySem.boot_len (a0 (pv 1) a9))))
   (ac (psA 6 scBo.nd (bu (a0 (aK (a0 (am aq (pv 1) (pv 4) fun _ _=>rfl) (a0 (aK (a0 ad (a0 ad a9))) a9))) (a0 (aK (a0 (am aq (pv 1) (pv 5) fun _ _=>rfl) (a0 (aK (a0 (cy bA ad) (a0 ad a9))) a9))) a9))))
   (ac (psA 7 scBo.nd (ai gD hr rfl mD kD bD .nil ax (a0 (pv 0) (a0 (ak aW ad (pv 3)) (a0 ad a9)))))
   (ac (cj (aG cD (pv 7) ad (aA _)) (ah (psA 6 scBo.nd (bu (a0 (aK (a0 (am aq (pv 1) (pv 4) fun _ _=>rfl) (a0 (aK (a0 ad (a0 ad a9))) a9))) a9)))) aU)
   (ac (cj (aG cD (pv 7) ad (aA _)) (ah (psA 6 scBo.nd (bu (a0 (aK (a0 (am aq (pv 1) (pv 4) fun _ _=>rfl) (a0 (aK (a0 (cy bA ad) (a0 ad a9))) a9))) a9)))) aU)
   (ac (psA 8 scBo.nd (aK (a0 (ak fg (ai gD hr rfl mD kD bD .nil ax (a0 (pv 0) (a0 (ak aW ad (pv 3)) (a0 ad a9)))) ad) (a0 ad a9))))
   (ah (dc (ig PySem.F.plainAttrs_list PySem.F.slot_list_append PySem.F.type_list_append cV (pv 2) (a0 (aK (a0 (bQ dY rfl B.tu PyProof.Rows.boot_tuple (a0 (av (fV hu60) rfl B.so PyProof.Rows.boot_sorted (a0 (pv 6) a9)) a9)) (a0 (pv 8) (a0 (c5 cD (ai gD hr rfl mD kD bD .nil ax (a0 (pv 0) (a0 (ak aW ad (pv 3)) (a0 ad a9)))) ad (aA _)) a9)))) a9))))))))))))
  (ah (az (pv 2)))),?_⟩
 have hL20:(20000:Nat)<=sizeLine:=by decide +kernel
 have wl:=hT.len;rw [cf] at wl;refine ⟨by show 0<=sizeLine;decide,fun lb nlb=> ?_⟩
 have s0:=aa (o:= .lst []) nlb;have hlb0:=a8 (H:=H) (a:=lb) (o:= .lst []);generalize upd H lb (.lst [])=H0 at s0 hlb0 ⊢;refine ag ?_
 try dsimp only
 refine ⟨_,rfl,a,ns,3,15,rfl,SqL.same s0 hS,h63,by decide,by decide,by decide,fun r0 r00 r07 _=> ?_⟩
 obtain ⟨nb,rfl⟩:∃nb:Nat,r0=(nb:Int):=⟨r0.toNat,by omega⟩
 refine ⟨10,(nb:Int),rfl,rfl,10+(nb:Int),rfl,by omega,by omega,?_⟩
 rw [show (10+(nb:Int)).toNat=nb+10 by omega]
 refine cW (n:=nb+10) (fun i σ H'=>Same H H'/\∃(bvs:List V) (bs:List Bnd) (x3 x4 x5 x6 x7 x8:Option V),σ= [some (.ref a),some (.ref l),some (.ref lb),x3,x4,x5,x6,x7,x8]/\H' lb=some (.lst bvs)/\TrsAt H' bvs (bs.map bdT)/\(∀b∈bs,Ub n j b)/\bs.length=i)
  ⟨s0,[],[],none,none,none,none,none,none,rfl,hlb0, .nil,(fun b m=>by cases m),rfl⟩ ?_ ?_
 . intro i σ H1 hi z_;refine hZq fun q_ e_=> ?_;obtain ⟨sH,bvs,bs,x3,x4,x5,x6,x7,x8,rfl,hlb,hB,hG,bl⟩:=z_;subst e_;have hS1:=SqL.same sH hS;have hl1:=sH _ _ hl;rw [zr];refine ag ?_
   try dsimp only
   refine ⟨_,rfl,_,rfl,20,(i:Int),rfl,rfl,_,rfl,l,ws,rfl, .inl (SqL.of hl1),a,ns,20+(i:Int),(ws.length:Int),rfl,hS1,h63,by omega,by omega,by omega,fun r1 r10 r11 _=> ?_⟩
   obtain ⟨o1,rfl⟩:∃o1:Nat,r1=(o1:Int):=⟨r1.toNat,by omega⟩
   refine ag ?_
   try dsimp only
   refine ⟨_,rfl,_,1,rfl,rfl,_,rfl,_,rfl,50,(i:Int),rfl,rfl,_,rfl,l,ws,rfl, .inl (SqL.of hl1),_,1,rfl,rfl,a,ns,50+(i:Int),(ws.length:Int) - 1,rfl,hS1,h63,by omega,by omega,by omega,fun r2 r20 r21 _=> ?_⟩
   refine ⟨(o1:Int)+1,r2,rfl,rfl,_,rfl,l,ws,rfl, .inl (SqL.of hl1),(o1:Int)+1+r2,(ws.length:Int),rfl,rfl,by omega,?_⟩
   have q0:=Int.emod_nonneg ((o1:Int)+1+r2) (show (ws.length:Int)≠0 by omega)
   have q1:=Int.emod_lt_of_pos ((o1:Int)+1+r2) (show (0:Int) < (ws.length:Int) by omega)
   obtain ⟨o2,eo2⟩:∃o2:Nat,((o1:Int)+1+r2)%(ws.length:Int)=(o2:Int):=⟨(((o1:Int)+1+r2)%(ws.length:Int)).toNat,by omega⟩
   have ne12:o1≠o2:=by
    rintro rfl;by_cases z:(o1:Int)+1+r2 < (ws.length:Int)
    . rw [Int.emod_eq_of_lt (by omega) z] at eo2
      omega
    . rw [show (o1:Int)+1+r2=((o1:Int)+1+r2 - (ws.length:Int))+(ws.length:Int) by omega,Int.add_emod_right,Int.emod_eq_of_lt (by omega) (by omega)] at eo2
      omega
   refine ag ?_
   try dsimp only
   rw [eo2];have ho1:o1 < n:=by omega
   have ho2:o2 < n:=by omega
   refine hZq fun q_ e_=> ?_;obtain ⟨xt1,ex1,hx1⟩:=(hT.mono (Kd.of_same sH)).get (eX (j:=j) ho1);obtain ⟨xt2,ex2,hx2⟩:=(hT.mono (Kd.of_same sH)).get (eX (j:=j) ho2);subst e_;refine ag ?_
   try dsimp only
   refine ⟨_,rfl,_,rfl,l,ws,(o1:Int),xt1,rfl,rfl,SqL.of hl1,aw ex1,two,fun p1 np1=> ?_⟩;refine ⟨two,fun p2 np2=> ?_⟩;obtain ⟨sA,hA⟩:=f9 hx1 np1 np2;change TrAt _ _ (prT (tmk j o1,(1,1))) at hA;generalize upd (upd H1 p1 (.tup [.int 1, .int 1])) p2 (.tup [xt1, .ref p1])=H2 at sA hA ⊢;refine ⟨_,rfl,_,rfl,l,ws,(o2:Int),xt2,rfl,rfl,SqL.of (sA _ _ hl1),aw ex2,1,rfl,two,fun p3 np3=> ?_⟩;refine ⟨two,fun p4 np4=> ?_⟩;obtain ⟨sB,hB2⟩:=f9 (hx2.mono (Kd.of_same sA)) np3 np4;change TrAt _ _ (prT (tmk j o2,(-1,1))) at hB2;show (2:Nat)<=sizeLine/\_;generalize (upd (upd H2 p3 (.tup [.int (-1), .int 1])) p4 (.tup [xt2, .ref p3]))=H3 at sB hB2 ⊢;refine ⟨two,fun D nD=> ?_⟩;have hD0:=a8 (H:=H3) (a:=D) (o:= .lst [.ref p2, .ref p4]);have sD:=aa (o:= .lst [.ref p2, .ref p4]) nD
   have hps0:TrsAt (upd H3 D (.lst [.ref p2, .ref p4])) [.ref p2, .ref p4] ([(tmk j o1,(1,1)),(tmk j o2,(-1,1))].map prT):=
    .cons (hA.mono (Kd.of_same (sB.trans sD))) (.cons (hB2.mono (Kd.of_same sD)) .nil)
   have s3:=(sA.trans sB).trans sD;generalize upd H3 D (.lst [.ref p2, .ref p4])=H4 at hD0 hps0 s3 ⊢;clear sA hA sB hB2 np3 np4 np2 np1 nD sD;refine ag ?_
   try dsimp only
   refine ⟨_,rfl,_,rfl,80,(i:Int),rfl,rfl,a,ns,80+(i:Int),6,rfl,SqL.same s3 hS1,h63,by omega,by omega,by decide,fun rw _ _ _=> ?_⟩
   refine ag ?_
   try dsimp only
   have p1':∀s:Int,s=1\/s= -1->Prs n j [(tmk j o1,(s,1))]:=fun s hs=>⟨fun p m=>by
    rw [yD.mp m];exact hE ho1,fun p m=>by
    rw [yD.mp m];rcases hs with rfl|rfl
    . exact .inl rfl
    . exact .inr rfl,by
    show [tmk j o1].Nodup
    simp,by show (1:Nat)<=2;decide⟩
   refine bX (fun σ' H'=>Same H1 H'/\∃(D:Addr) (acc:List V) (ps:List Pq),σ'= [some (.ref a),some (.ref l),some (.ref lb),some (.int (i:Int)),some (.int (o1:Int)),some (.int (o2:Int)),some (.ref D),some (.int rw),x8]/\H' D=some (.lst acc)/\TrsAt H' acc (ps.map prT)/\Prs n j ps) ?_ fun nx hnx=> ?_;rotate_left
   . have p0:Prs n j [(tmk j o1,(1,1)),(tmk j o2,(-1,1))]:=⟨fun p m=>by
      rcases yx.mp m with rfl|m
      . exact hE ho1
      . rw [yD.mp m];exact hE ho2,fun p m=>by
      rcases yx.mp m with rfl|m
      . exact .inl rfl
      . rw [yD.mp m];exact .inr rfl,by
      show [tmk j o1,tmk j o2].Nodup;rw [zu]
      exact ⟨fun z=>ne12 (lV (yD.mp z)),by simp⟩,by show (2:Nat)<=2;decide⟩
     refine ⟨_,rfl,rfl,_,rfl,?_⟩;refine ite2 (fun _=> ?_) (fun _=>hnx _ _ ⟨s3,D,_,_,rfl,hD0,hps0,p0⟩)
     . obtain ⟨y1,ey1,hy1⟩:=(hT.mono (Kd.of_same (sH.trans s3))).get (eX (j:=j) ho1);refine ⟨_,rfl,_,rfl,l,ws,(o1:Int),y1,rfl,rfl,SqL.of (s3 _ _ hl1),aw ey1,two,fun p1 np1=> ?_⟩;refine ⟨two,fun p2 np2=> ?_⟩;obtain ⟨sA,hA⟩:=f9 hy1 np1 np2;change TrAt _ _ (prT (tmk j o1,(1,1))) at hA;show (1:Nat)<=sizeLine/\_;generalize (upd (upd H4 p1 (.tup [.int (1), .int 1])) p2 (.tup [y1, .ref p1]))=H5 at sA hA ⊢;refine ⟨by omega,fun D2 nD2=> ?_⟩
       have sD:=aa (o:= .lst [.ref p2]) nD2;exact hnx _ _ ⟨s3.trans (sA.trans sD),D2,_,[(tmk j o1,(1,1))],rfl,a8, .cons (hA.mono (Kd.of_same sD)) .nil,p1' (1) (by omega)⟩
   . intro σ' H5 z_;refine hZq fun q_ e_=> ?_;obtain ⟨s5,D,acc,ps,rfl,hD,hA,hP⟩:=z_;subst e_;have al:=hA.len;rw [yi] at al;refine bX (fun σ' H'=>Same H1 H'/\∃(D:Addr) (acc:List V) (ps:List Pq),σ'= [some (.ref a),some (.ref l),some (.ref lb),some (.int (i:Int)),some (.int (o1:Int)),some (.int (o2:Int)),some (.ref D),some (.int rw),x8]/\H' D=some (.lst acc)/\TrsAt H' acc (ps.map prT)/\Prs n j ps) ?_ fun nx hnx=> ?_;rotate_left
     . refine ⟨_,rfl,rfl,_,rfl,?_⟩;refine ite2 (fun _=> ?_) (fun _=>hnx _ _ ⟨s5,D,acc,ps,rfl,hD,hA,hP⟩);obtain ⟨y1,ey1,hy1⟩:=(hT.mono (Kd.of_same (sH.trans s5))).get (eX (j:=j) ho1);refine ⟨_,rfl,_,rfl,l,ws,(o1:Int),y1,rfl,rfl,SqL.of (s5 _ _ hl1),aw ey1,1,rfl,two,fun p1 np1=> ?_⟩;refine ⟨two,fun p2 np2=> ?_⟩;obtain ⟨sA,hA'⟩:=f9 hy1 np1 np2;change TrAt _ _ (prT (tmk j o1,(-1,1))) at hA';show (1:Nat)<=sizeLine/\_;generalize (upd (upd H5 p1 (.tup [.int (-1), .int 1])) p2 (.tup [y1, .ref p1]))=H6 at sA hA' ⊢;refine ⟨by omega,fun D2 nD2=> ?_⟩
       have sD:=aa (o:= .lst [.ref p2]) nD2;exact hnx _ _ ⟨s5.trans (sA.trans sD),D2,_,[(tmk j o1,(-1,1))],rfl,a8, .cons (hA'.mono (Kd.of_same sD)) .nil,p1' (-1) (by omega)⟩
     . clear hD0 hps0 s3 hD hA hP al s5;intro σ'' H6 z_;refine hZq fun q_ e_=> ?_;obtain ⟨s6,D,acc,ps,rfl,hD,hA,hP⟩:=z_;subst e_;have al:=hA.len;rw [yi] at al;have l2:=hP.l2;refine ⟨_,rfl,_,rfl,110,(i:Int),rfl,rfl,a,ns,110+(i:Int),13,rfl,SqL.same s6 hS1,h63,by omega,by omega,by decide,fun r5 r50 r57 _=> ?_⟩
       refine ⟨r5,3,rfl,rfl,two,fun rm nrm=> ?_⟩;have s5:=aa (o:= .tup [.int (r5 - 3), .int 1]) nrm;have hrm:=a8 (H:=H6) (a:=rm) (o:= .tup [.int (r5 - 3), .int 1]);generalize upd H6 rm (.tup [.int (r5 - 3), .int 1])=H7 at s5 hrm ⊢;have s7:=s6.trans s5;have hD7:=s5 _ _ hD;have hA7:=hA.mono (Kd.of_same s5);clear hD hA;refine ag ?_
       try dsimp only
       refine ⟨_,rfl, .inl ⟨rfl,_,SqL.of (s7 _ _ hlb)⟩,_,rfl,D,acc,_,rfl,hD7,hA7,by rw [yi];omega,fun t m=>⟨uR (.inr (hP.ty n9 t m).1),cY (hP.ty n9 t m).1,by have:=(hP.ty n9 t m).2;omega⟩,fun t m u mu=>jz 30 (by have:=(hP.ty n9 t m).2;omega) (hP.ty n9 t m).1 (hP.ty n9 u mu).1,fun S ws' us' nS pm hT' srt=> ?_⟩
       obtain ⟨qs,rfl,pq⟩:=gG pm rfl;have sS:=aa (o:= .lst ws') nS;refine ⟨S,ws',rfl, .inl ⟨SqL.of a8,fun p np=> ?_⟩⟩;have sp:=aa (o:= .tup ws') np;have hw8:TrAt (upd (upd H7 S (.lst ws')) p (.tup ws')) (.ref p) (.tup (qs.map prT)):=dM a8 (hT'.mono (Kd.of_same (sS.trans sp)));have s78:=sS.trans sp;generalize upd (upd H7 S (.lst ws')) p (.tup ws')=H8 at hw8 s78 ⊢;have s8:=s7.trans s78;have ub:=fun st=>hP.ub n9 pq srt (m:=r5 - 3) (by omega) st
       refine ⟨_,rfl,_,rfl,_,rfl,140,(i:Int),rfl,rfl,a,ns,140+(i:Int),4,rfl,SqL.same s8 hS1,h63,by omega,by omega,by decide,fun r9 _ _ _=> ?_⟩
       refine ⟨rfl,by show 3<=sizeLine;decide,fun q nq=> ?_⟩
       have sq:=aa (o:= .tup [.ref p, .ref rm, .bl (decide (V.int r9=V.int 1))]) nq;have hlb8:=s8 _ _ hlb;have hlb9:=sq _ _ hlb8;have bvl:=hB.len;rw [yi] at bvl;refine ⟨lb,bvs,_,rfl,rfl,hlb9,by omega,?_⟩
       have kd:=(Kd.of_same sq).trans (Kd.upd (ys:=bvs++ [.ref q]) hlb9);have nlp:q≠lb:=fun z=>by rw [z,hlb8] at nq;cases nq
       refine ⟨aF nlb (sH.trans (s8.trans sq)),bvs++ [.ref q],bs++ [⟨qs,(r5 - 3,1),decide (V.int r9=V.int 1)⟩],_,_,_,_,_,_,rfl,a8,?_,fun b mb=> ?_,by rw [yI,bl];rfl⟩
       . rw [yK];refine TrsAt.app (.cons (dM ((ae nlp).trans a8) (.cons (hw8.mono kd) (.cons ((jt (s78 _ _ hrm)).mono kd) (.cons (by unfold TrAt;rfl) .nil)))) .nil) ((hB.mono (Kd.of_same s8)).mono kd)
       . rcases yN.mp mb with mb|mb
         . exact hG b mb
         . rw [yD.mp mb];exact ub _
 . intro σ H1 z_;refine hZq fun q_ e_=> ?_;obtain ⟨sH,bvs,bs,x3,x4,x5,x6,x7,x8,rfl,hlb,hB,hG,bl⟩:=z_;subst e_;exact ⟨_,rfl,k lb bvs bs H1 sH nlb hlb hB hG (by omega) (by omega)⟩
noncomputable def rp (j m k:Nat):List Pq:= [(tmk j k,(1,1)),(tmk j ((k+1)%m),(-1,1))]
structure Rb (j m k:Nat) (b:Bnd):Prop where
 pm:b.ps.Perm (rp j m k)
 lim:b.lim=(0,1)
 st:b.st=decide (k=0)
theorem vO {n j m k:Nat} (hk:k < m) (h2:2<=m) (hm:m<=n):Prs n j (rp j m k):=by
 have q:(k+1)%m < m:=Nat.mod_lt _ (by omega)
 have ne:k≠(k+1)%m:=by
  by_cases z:k+1 < m
  . rw [Nat.mod_eq_of_lt z];omega
  . rw [show k+1=m by omega,Nat.mod_self]
    omega
 refine ⟨fun p mp=> ?_,fun p mp=> ?_,?_,by show (2:Nat)<=2;decide⟩
 . rcases yx.mp mp with rfl|mp
   . exact hE (by omega)
   . rw [yD.mp mp];exact hE (by omega)
 . rcases yx.mp mp with rfl|mp
   . exact .inl rfl
   . rw [yD.mp mp];exact .inr rfl
 . show [tmk j k,tmk j ((k+1)%m)].Nodup;rw [zu];exact ⟨fun z=>ne (lV (yD.mp z)),by simp⟩
def kJ (K:PySem.W.Frag):Sp:=fun vs H Q _=>∃(a:Addr) (ns:List Int) (l:Addr) (ws:List V) (n j:Nat),vs= [.ref a, .ref l]/\SqL K H a (ns.map V.int)/\ns.length<=63/\H l=some (.lst ws)/\TrsAt H ws (TL n j)/\6<=n/\n<=9/\
 ∀(lb:Addr) (bvs:List V) (bs:List Bnd) (m:Nat) (H':Hp),Same H H'->H lb=none->H' lb=some (.lst bvs)->TrsAt H' bvs (bs.map bdT)->(∀b∈bs,Ub n j b)->2<=m->m<=n->bs.length=m->(∀k b,bs[k]?=some b->Rb j m k b)->Q (.ref lb) H'
noncomputable def nRi:List Str:= ["_law_script","_law_terms_here","_law_ring_here","_law_many","_law_k","_law_pairs"]
theorem scRi:FnScope nRi ["_law_script","_law_terms_here"] (af qu):= .of
theorem uj {f fD:Addr} {fd dD:FuncData} (F:Fun K "_law_ring" "_law_ring" qu f fd) (B:Blt mg)
 (gD:FnOk P w K mg base CX0 1 fD dD ["_law_script","_law_k","_law_many"] (f6 K)) (kD:PySem.W.keepIn K (.ref fD)=true) (bD:Binds K dD ["_law_script","_law_k","_law_many"] []) (mD:mg "_law_draw"=some (.ref fD)):FnOk P w K mg base CX0 2 f fd ["_law_script","_law_terms_here"] (kJ K):=by
 refine F.okb scRi fun vs H Q E h=> ?_;refine hZq fun q_ e_=> ?_;obtain ⟨a,ns,l,ws,n,j,rfl,hS,h63,hl,hT,n6,n9,k⟩:=h;subst e_;refine ⟨rfl,fun cdv A outer s hr=> ?_⟩;have hun:=hr.units;have hu60:=yM (zx (show 60<=64 by decide) _) hun
 refine ⟨_,ac (psA 2 scRi.nd (bu a9))
  (ac (psA 3 scRi.nd (ak aW ad (ai gD hr rfl mD kD bD .nil ax (a0 (pv 0) (a0 ad (a0 (ak fg (av ao rfl B.le PySem.boot_len (a0 (pv 1) a9)) ad) a9))))))
  (ac (bZ PassesOwn.never rfl (bP rfl B.ra (a0 (pv 3) a9)) (pgA 4 scRi.nd)
   (ac (psA 5 scRi.nd (bu (a0 (aK (a0 (am aq (pv 1) (pv 4) fun _ _=>rfl) (a0 (aK (a0 ad (a0 ad a9))) a9))) (a0 (aK (a0 (am aq (pv 1) (ak cH (ak aW (pv 4) ad) (pv 3)) fun _ _=>rfl) (a0 (aK (a0 (cy bA ad) (a0 ad a9))) a9))) a9))))
   (ah (dc (ig PySem.F.plainAttrs_list PySem.F.slot_list_append PySem.F.type_list_append cV (pv 2) (a0 (aK (a0 (bQ dY rfl B.tu PyProof.Rows.boot_tuple (a0 (av (fV hu60) rfl B.so PyProof.Rows.boot_sorted (a0 (pv 5) a9)) a9)) (a0 (aK (a0 ad (a0 ad a9))) (a0 (c5 cD (pv 4) ad (aA _)) a9)))) a9))))))
  (ah (az (pv 2))))),?_⟩
 have hL20:(20000:Nat)<=sizeLine:=by decide +kernel
 have wl:=hT.len;rw [cf] at wl;refine ⟨by show 0<=sizeLine;decide,fun lb nlb=> ?_⟩
 have s0:=aa (o:= .lst []) nlb;have hlb0:=a8 (H:=H) (a:=lb) (o:= .lst []);generalize upd H lb (.lst [])=H0 at s0 hlb0 ⊢;refine ag ?_
 try dsimp only
 refine ⟨_,rfl,_,rfl,l,ws,rfl, .inl (SqL.of (s0 _ _ hl)),_,1,rfl,rfl,a,ns,4,(ws.length:Int) - 1,rfl,SqL.same s0 hS,h63,by decide,by omega,by omega,fun r0 r00 r07 _=> ?_⟩
 obtain ⟨nb,rfl⟩:∃nb:Nat,r0=(nb:Int):=⟨r0.toNat,by omega⟩
 refine ⟨2,(nb:Int),rfl,rfl,?_⟩;refine ag ?_
 try dsimp only
 refine ⟨_,rfl,2+(nb:Int),rfl,by omega,by omega,?_⟩
 rw [show (2+(nb:Int)).toNat=nb+2 by omega]
 refine cW (n:=nb+2) (fun i σ H'=>Same H H'/\∃(bvs:List V) (bs:List Bnd) (x4 x5:Option V),σ= [some (.ref a),some (.ref l),some (.ref lb),some (.int (2+(nb:Int))),x4,x5]/\H' lb=some (.lst bvs)/\TrsAt H' bvs (bs.map bdT)/\(∀b∈bs,Ub n j b)/\bs.length=i/\∀k b,bs[k]?=some b->Rb j (nb+2) k b)
  ⟨s0,[],[],none,none,rfl,hlb0, .nil,(fun b m=>by cases m),rfl,fun k b e=>by cases e⟩ ?_ ?_
 . intro i σ H1 hi z_;refine hZq fun q_ e_=> ?_;obtain ⟨sH,bvs,bs,x4,x5,rfl,hlb,hB,hG,bl,hR⟩:=z_;subst e_;have hl1:=sH _ _ hl;rw [zr];refine ag ?_
   try dsimp only
   have q0:(i+1)%(nb+2) < nb+2:=Nat.mod_lt _ (by omega)
   refine hZq fun q_ e_=> ?_;obtain ⟨xt1,ex1,hx1⟩:=(hT.mono (Kd.of_same sH)).get (eX (j:=j) (k:=i) (by omega))
   obtain ⟨xt2,ex2,hx2⟩:=(hT.mono (Kd.of_same sH)).get (eX (j:=j) (k:=(i+1)%(nb+2)) (by omega))
   subst e_;refine ⟨_,rfl,_,rfl,l,ws,(i:Int),xt1,rfl,rfl,SqL.of hl1,aw ex1,two,fun p1 np1=> ?_⟩;refine ⟨two,fun p2 np2=> ?_⟩;obtain ⟨sA,hA⟩:=f9 hx1 np1 np2;change TrAt _ _ (prT (tmk j i,(1,1))) at hA;generalize upd (upd H1 p1 (.tup [.int 1, .int 1])) p2 (.tup [xt1, .ref p1])=H2 at sA hA ⊢;refine ⟨_,rfl,_,rfl,_,1,rfl,rfl,_,rfl,(i:Int)+1,2+(nb:Int),rfl,rfl,by omega,?_⟩
   have em:((i:Int)+1)%(2+(nb:Int))=(((i+1)%(nb+2):Nat):Int):=by
    rw [show 2+(nb:Int)=((nb+2:Nat):Int) by omega,show (i:Int)+1=((i+1:Nat):Int) by omega]
    exact (Int.natCast_emod _ _).symm
   refine ⟨l,ws,((i:Int)+1)%(2+(nb:Int)),xt2,rfl,rfl,SqL.of (sA _ _ hl1),by rw [em];exact aw ex2,1,rfl,two,fun p3 np3=> ?_⟩
   refine ⟨two,fun p4 np4=> ?_⟩;obtain ⟨sB,hB2⟩:=f9 (hx2.mono (Kd.of_same sA)) np3 np4;change TrAt _ _ (prT (tmk j ((i+1)%(nb+2)),(-1,1))) at hB2;show (2:Nat)<=sizeLine/\_;generalize (upd (upd H2 p3 (.tup [.int (-1), .int 1])) p4 (.tup [xt2, .ref p3]))=H3 at sB hB2 ⊢;refine ⟨two,fun D nD=> ?_⟩;have hD0:=a8 (H:=H3) (a:=D) (o:= .lst [.ref p2, .ref p4]);have sD:=aa (o:= .lst [.ref p2, .ref p4]) nD
   have hA0:TrsAt (upd H3 D (.lst [.ref p2, .ref p4])) [.ref p2, .ref p4] ((rp j (nb+2) i).map prT):=
    .cons (hA.mono (Kd.of_same (sB.trans sD))) (.cons (hB2.mono (Kd.of_same sD)) .nil)
   have s7:=(sA.trans sB).trans sD;generalize upd H3 D (.lst [.ref p2, .ref p4])=H7 at hD0 hA0 s7 ⊢;clear sA hA sB hB2 np3 np4 np2 np1 nD sD;have hP:Prs n j (rp j (nb+2) i):=vO hi (by omega) (by omega)
   refine ag ?_
   try dsimp only
   refine ⟨_,rfl, .inl ⟨rfl,_,SqL.of (s7 _ _ hlb)⟩,_,rfl,D,_,_,rfl,hD0,hA0,by show 2 < 64;decide,fun t m=>⟨uR (.inr (hP.ty n9 t m).1),cY (hP.ty n9 t m).1,by have:=(hP.ty n9 t m).2;omega⟩,fun t m u mu=>jz 30 (by have:=(hP.ty n9 t m).2;omega) (hP.ty n9 t m).1 (hP.ty n9 u mu).1,fun S ws' us' nS pm hT' srt=> ?_⟩
   obtain ⟨qs,rfl,pq⟩:=gG pm rfl;have sS:=aa (o:= .lst ws') nS;refine ⟨S,ws',rfl, .inl ⟨SqL.of a8,fun p np=> ?_⟩⟩;have sp:=aa (o:= .tup ws') np;have hw8:TrAt (upd (upd H7 S (.lst ws')) p (.tup ws')) (.ref p) (.tup (qs.map prT)):=dM a8 (hT'.mono (Kd.of_same (sS.trans sp)));have s78:=sS.trans sp;generalize upd (upd H7 S (.lst ws')) p (.tup ws')=H8 at hw8 s78 ⊢;have ub:=fun st=>hP.ub n9 pq srt (m:=0) (by decide) st
   refine ⟨two,fun rm nrm=> ?_⟩;have s9:=aa (o:= .tup [.int 0, .int 1]) nrm;have hrm:=a8 (H:=H8) (a:=rm) (o:= .tup [.int 0, .int 1]);generalize upd H8 rm (.tup [.int 0, .int 1])=H9 at s9 hrm ⊢;have s19:=s7.trans (s78.trans s9);refine ⟨_,rfl,rfl,by show 3<=sizeLine;decide,fun q nq=> ?_⟩
   have sq:=aa (o:= .tup [.ref p, .ref rm, .bl (decide (V.int (i:Int)=V.int 0))]) nq;have hlb8:=s19 _ _ hlb;have hlb9:=sq _ _ hlb8;have bvl:=hB.len;rw [yi] at bvl;refine ⟨lb,bvs,_,rfl,rfl,hlb9,by omega,?_⟩
   have kd:=(Kd.of_same sq).trans (Kd.upd (ys:=bvs++ [.ref q]) hlb9);have nlp:q≠lb:=fun z=>by rw [z,hlb8] at nq;cases nq
   refine ⟨aF nlb (sH.trans (s19.trans sq)),bvs++ [.ref q],bs++ [⟨qs,(0,1),decide (V.int (i:Int)=V.int 0)⟩],_,_,rfl,a8,?_,fun b mb=> ?_,by rw [yI,bl];rfl,fun k b e=> ?_⟩
   . rw [yK];refine TrsAt.app (.cons (dM ((ae nlp).trans a8) (.cons ((hw8.mono (Kd.of_same s9)).mono kd) (.cons ((jt hrm).mono kd) (.cons (by unfold TrAt;rfl) .nil)))) .nil) ((hB.mono (Kd.of_same s19)).mono kd)
   . rcases yN.mp mb with mb|mb
     . exact hG b mb
     . rw [yD.mp mb];exact ub _
   . rw [List.getElem?_append] at e;split at e
     . exact hR k b e
     . rename_i hk
       have hk0:k=i:=by
        have:=yt.mp e;obtain ⟨h,_⟩:=this;simp at h;omega
       subst hk0;rw [bl,Nat.sub_self] at e;cases e;refine ⟨pq,rfl,?_⟩;show decide (V.int (k:Int)=V.int 0)=decide (k=0);by_cases z:k=0
       . subst z;rfl
       . rw [decide_eq_false z,decide_eq_false (fun h=>z (by injection h with h;omega))]
 . intro σ H1 z_;refine hZq fun q_ e_=> ?_;obtain ⟨sH,bvs,bs,x4,x5,rfl,hlb,hB,hG,bl,hR⟩:=z_;subst e_;exact ⟨_,rfl,k lb bvs bs (nb+2) H1 sH nlb hlb hB hG (by omega) (by omega) bl hR⟩
end
end K45
namespace Dv
open PySem PySem.Spec PyProof.Rows L2 Tre Wd Su Dj
def Env (H:Hp) (g:Tr->Tr) (e:Ent) (t:Tr):Prop:=e.1=ktL t/\TrAt H (.ref e.2.1) t/\TrAt H e.2.2 (g t)
structure DAv (P:Program) (w:World) (K:PySem.W.Frag) (H:Hp) (a:Addr) (ks:List Tr) (g:Tr->Tr):Prop where
 ex:∃kvs,DJ P w K H a kvs/\Paired (Env H g) kvs ks
 ty:∀t∈ks,Ty .tm t/\t.depth<=7
 nd:ks.Nodup
section
variable {P:Program} {w:World} {K:PySem.W.Frag} {H H':Hp} {a:Addr} {ks:List Tr} {g:Tr->Tr}
theorem nB {kvs:List Ent} (k:Kd H H') (h:Paired (Env H g) kvs ks):Paired (Env H' g) kvs ks:=Paired.imp' (fun e t x=>⟨x.1,x.2.1.mono k,x.2.2.mono k⟩) h
theorem DAv.kd (x:DAv P w K H a ks g) (k:Kd H H') (hs:∀o,(∀xs,o≠ .lst xs)->H a=some o->H' a=some o):DAv P w K H' a ks g:=by
 obtain ⟨kvs,d,p⟩:=x.ex;exact ⟨⟨kvs,d.kd k (hs _ (fun _ z=>by cases z) d.at_),nB k p⟩,x.ty,x.nd⟩
theorem DAv.same (x:DAv P w K H a ks g) (s:Same H H'):DAv P w K H' a ks g:=x.kd (Kd.of_same s) fun o _ e=>s _ _ e
theorem ev_val {kvs:List Ent} (h:Paired (Env H g) kvs ks) (ty:∀t∈ks,Ty .tm t) {t:Tr} (tt:Ty .tm t):(t∈ks->∃v,valJ kvs (ktL t)=some v/\TrAt H v (g t))/\(t∉ks->valJ kvs (ktL t)=none):=by
 induction h with
 |nil=>exact ⟨fun m=>(by cases m),fun _=>rfl⟩
 | @cons e u es us h1 _ ih=>
  obtain ⟨i1,i2⟩:=ih fun x m=>ty x (ym _ m);by_cases z:u=t
  . subst z;exact ⟨fun _=>⟨e.2.2,gh h1.1,h1.2.2⟩,fun n=>absurd yn n⟩
  . have ne:¬e.1=ktL t:=fun q=>z (jc (ty u yn) tt (h1.1.symm.trans q));refine ⟨fun m=> ?_,fun n=> ?_⟩
    . rw [dm ne];rcases yx.mp m with e'|m
      . exact absurd e'.symm z
      . exact i1 m
    . rw [dm ne];exact i2 fun m=>n (ym _ m)
open Classical in
noncomputable def setV (g:Tr->Tr) (t:Tr) (f:Tr):Tr->Tr:=fun u=>if u=t then f else g u
theorem wX {kvs:List Ent} {t:Tr} {f:Tr} {v:V} (hv:TrAt H v (f)) (tt:Ty .tm t) (h:Paired (Env H g) kvs ks) (ty:∀t∈ks,Ty .tm t):Paired (Env H (setV g t f)) (kvs.map fun p=>if p.1=ktL t then (p.1,p.2.1,v) else p) ks:=by
 induction h with
 |nil=>exact .nil
 | @cons e u es us h1 _ ih=>
  rw [yG];refine .cons ?_ (ih fun x m=>ty x (ym _ m));by_cases z:u=t
  . subst z;rw [if_pos h1.1];refine ⟨h1.1,h1.2.1,?_⟩;unfold setV;rw [if_pos rfl];exact hv
  . have ne:¬e.1=ktL t:=fun q=>z (jc (ty u yn) tt (h1.1.symm.trans q));rw [if_neg ne];refine ⟨h1.1,h1.2.1,?_⟩;unfold setV;rw [if_neg z];exact h1.2.2
theorem wW {kvs:List Ent} {t:Tr} {f:Tr} (n:t∉ks) (h:Paired (Env H g) kvs ks):Paired (Env H (setV g t f)) kvs ks:=by
 induction h with
 |nil=>exact .nil
 | @cons e u es us h1 _ ih=>
  refine .cons ⟨h1.1,h1.2.1,?_⟩ (ih fun m=>n (ym _ m));unfold setV;rw [if_neg (fun z=>n (by rw [<-z];exact yn))]
  exact h1.2.2
theorem DAv.put (x:DAv P w K H a ks g) {t:Tr} {b:Addr} {v:V} {f:Tr} (tt:Ty .tm t) (hd:t.depth<=7) (hb:TrAt H (.ref b) t) (hv:TrAt H v (f)) {kvs:List Ent} (d:DJ P w K H a kvs) (hk:DAv P w K H a ks g->Paired (Env H g) kvs ks):
 DAv P w K (upd H a (dJ P w a (putJ kvs (ktL t) b v))) a (addK ks t) (setV g t f):=by
 have p:=hk x;have kd:=Kd.updJ (o:=dJ P w a (putJ kvs (ktL t) b v)) d.at_;have ev:=ev_val p (fun t m=>(x.ty t m).1) tt;refine ⟨⟨_,d.put (key_tm tt hd hb),?_⟩,fun u m=> ?_,?_⟩
 . refine nB kd ?_;unfold putJ addK;by_cases m:t∈ks
   . obtain ⟨v',e',_⟩:=ev.1 m;rw [e',if_pos m,if_pos (show (some v').isSome=true from rfl)];exact wX hv tt p fun t m=>(x.ty t m).1
   . rw [ev.2 m,if_neg m,if_neg (by simp)]
     refine Paired.snoc (wW m p) ⟨rfl,hb,?_⟩;unfold setV;rw [if_pos rfl];exact hv
 . unfold addK at m;split at m
   . exact x.ty u m
   . rcases yN.mp m with m|m
     . exact x.ty u m
     . rw [yD.mp m];exact ⟨tt,hd⟩
 . unfold addK;split
   . exact x.nd
   . rename_i n;exact List.nodup_append.mpr ⟨x.nd,(by simp),fun u mu y my=>by rw [yD.mp my];exact fun z=>n (by rw [<-z];exact mu)⟩
theorem DAv.keys (x:DAv P w K H a ks g):∃kvs,DJ P w K H a kvs/\TrsAt H (kvs.map fun e=>V.ref e.2.1) ks:=by
 obtain ⟨kvs,d,p⟩:=x.ex;refine ⟨kvs,d,?_⟩;clear d x
 induction p with
 |nil=>exact .nil
 |cons h1 _ ih=>exact .cons h1.2.1 ih
theorem DAv.vals (x:DAv P w K H a ks g):∃kvs,DJ P w K H a kvs/\kvs.length=ks.length/\TrsAt H (kvs.map fun e=>e.2.2) (ks.map g):=by
 obtain ⟨kvs,d,p⟩:=x.ex;refine ⟨kvs,d,Paired.length p,?_⟩;clear d x
 induction p with
 |nil=>exact .nil
 |cons h1 _ ih=>exact .cons h1.2.2 ih
theorem DAv.nil (d:DJ P w K H a []):DAv P w K H a [] g:=⟨⟨[],d, .nil⟩,fun t m=>(by cases m),List.nodup_nil⟩
end
end Dv
namespace K45
open PySem L2 Mth Tre Wd Su
theorem vH {us vs:List Tr} (ty:∀t∈us,Ty .tm t) (pm:us.Perm vs) (h1:∀(i j:Nat) (t u:Tr),i<=j->us[i]?=some t->us[j]?=some u->ltT u t=false) (h2:∀(i j:Nat) (t u:Tr),i<=j->vs[i]?=some t->vs[j]?=some u->ltT u t=false):us=vs:=by
 refine List.Perm.eq_of_pairwise (le:=fun a b=>ltT b a=false) (fun a b ma mb e1 e2=> ?_) ?_ ?_ pm
 . cases q:eqT a b with
   |true=>exact uS (ty a ma) (ty b (pm.mem_iff.mpr mb)) q
   |false=>
    have:=vh e1 q;rw [e2] at this;cases this
 . rw [zd];exact fun i j hi hj hij=>h1 i j _ _ (by omega) (yj hi) (yj hj)
 . rw [zd];exact fun i j hi hj hij=>h2 i j _ _ (by omega) (yj hi) (yj hj)
theorem tV {a b v1 v2 s:Int} (hb:0 < b) (hv:0 < v2):rv ((a*v2+s*v1*b,b*v2):Fr)=rv ((a,b):Fr)+(s:Rat)*rv ((v1,v2):Fr):=by
 unfold rv;have h1:(b:Rat)≠0:=cB hb;have h2:(v2:Rat)≠0:=cB hv;dsimp only;rw [Rat.intCast_add,Rat.intCast_mul,Rat.intCast_mul,Rat.intCast_mul,Rat.intCast_mul];grind
theorem ltO:Lt2 1 1:=by show (1:Nat) < 2^1;decide
theorem kX {p q:Fr} (h1:0 < p.2) (h2:0 < q.2):p.1*q.2 < q.1*p.2↔rv p < rv q:=by
 have h:=xI (p:=q) (q:=p) h2 h1;rw [<-Rat.not_le,<-h];omega
theorem vM {p q:Fr} (h1:0 < p.2) (h2:0 < q.2):p.1*q.2=q.1*p.2↔rv p=rv q:=by
 have a:=kX h1 h2;have b:=kX h2 h1;constructor
 . intro e;have n1:¬rv p < rv q:=fun z=>by have:=a.mpr z;omega
   have n2:¬rv q < rv p:=fun z=>by have:=b.mpr z;omega
   exact Rat.le_antisymm (Rat.not_lt.mp n2) (Rat.not_lt.mp n1)
 . intro e;have n1:¬p.1*q.2 < q.1*p.2:=fun z=>by have:=a.mp z;rw [e] at this;exact Rat.lt_irrefl this
   have n2:¬q.1*p.2 < p.1*q.2:=fun z=>by have:=b.mp z;rw [e] at this;exact Rat.lt_irrefl this
   omega
theorem iH {n:Nat}:∀ {ts:List Tr},(∀t∈ts,t.pure/\t.depth<=n)->Trs.pure ts/\Trs.depth ts<=n
 | [],_=>⟨by unfold Trs.pure;trivial,by unfold Trs.depth;omega⟩
 |t::ts,h=>by
  obtain ⟨a,b⟩:=iH fun u m=>h u (ym _ m);obtain ⟨c,d⟩:=h t yn;refine ⟨?_,?_⟩
  . unfold Trs.pure;exact ⟨c,a⟩
  . unfold Trs.depth;omega
theorem f8 {f:Fr} (a:Int) (h:f=(a,1)):rv f=(a:Rat):=by
 subst h;unfold rv;simp
 try grind
theorem addK_mem {ks:List Tr} {t u:Tr}:u∈Dj.addK ks t↔u∈ks\/u=t:=by
 unfold Dj.addK;split
 . rename_i h;exact ⟨.inl,fun q=>q.elim id fun e=>by rw [e];exact h⟩
 . rw [yN,yD]
section
variable {P:Program} {w:World} {K:PySem.W.Frag} {mg:Str->Option Value} {base:Heap} {T0:Addr}
def kM (P:Program) (w:World) (K:PySem.W.Frag):Sp:=fun vs H Q _=>∃(lb d:Addr) (xs:List V) (bs:List Bnd) (n j m:Nat) (us:List Tr) (G:Tr->Fr),vs= [.ref lb, .ref d]/\H lb=some (.lst xs)/\TrsAt H xs (bs.map bdT)/\(∀b∈bs,Ub n j b)/\n<=9/\Dj.DAt P w K H d us G/\(∀t∈us,Sh (G t)/\Gf m (G t))/\m<=3000/\TmIn us bs/\
 (∀b∈bs,lin (gw us G) b.ps < rv b.lim\/(lin (gw us G) b.ps=rv b.lim/\b.st=false))/\∀H',Same H H'->Q (.bl true) H'
noncomputable def nNu:List Str:= ["_law_bounds_here","_law_numbers_here","_law_terms_here","_law_whole","_law_most","_law_strict","_law_top","_law_bottom","_law_term","_law_share","_law_value","_law_over_here"]
theorem scNu:FnScope nNu ["_law_bounds_here","_law_numbers_here"] (af gC):= .of
theorem la {f fO:Addr} {fd dO:FuncData} (F:Fun K "_law_numbers" "_law_numbers" gC f fd) (B:Blt mg)
 (gO:FnOk P w K mg base CX0 1 fO dO ["_law_one","_law_other"] (kK K)) (kO:PySem.W.keepIn K (.ref fO)=true) (bO:Binds K dO ["_law_one","_law_other"] []) (mO:mg "_law_over"=some (.ref fO)):FnOk P w K mg base CX0 2 f fd ["_law_bounds_here","_law_numbers_here"] (kM P w K):=by
 refine F.okb scNu fun vs H Q E h=> ?_;refine hZq fun q_ e_=> ?_;obtain ⟨lb,d,xs,bs,n,j,m,us,G,rfl,hl,hT,hU,n9,hD,hG,m3,hTm,hMet,k⟩:=h;subst e_;refine ⟨rfl,fun cdv A outer s hr=> ?_⟩;have hun:=hr.units;have hu30:=yM (zx (show 30<=64 by decide) _) hun
 have hu60:=yM (zx (show 60<=64 by decide) _) hun
 refine ⟨_,ac (psA 2 scNu.nd (Dj.pe_newJ (P:=P) (w:=w) rfl rfl))
  (ac (bZ PassesOwn.never rfl (aZ (pv 0)) (be rfl (aj (pgA 3 scNu.nd) (aj (pgA 4 scNu.nd) (aj (pgA 5 scNu.nd) aP))))
   (ac (psA 6 scNu.nd ad)
   (ac (psA 7 scNu.nd ad)
   (ac (bZ PassesOwn.never rfl (fc (pv 3)) (be rfl (aj (pgA 8 scNu.nd) (aj (pgA 9 scNu.nd) aP)))
    (ac (Dj.ps_putJ (P:=P) (w:=w) (K:=K) rfl rfl rfl hu30 (pv 2) (pv 8) ii rfl)
    (ac (psA 10 scNu.nd (Dj.pe_getJ (P:=P) (w:=w) (K:=K) rfl rfl rfl hu30 (pv 1) (pv 8) (aK (a0 ad (a0 ad a9))) ⟨rfl,rfl,rfl,rfl⟩))
    (ac (psA 6 scNu.nd (ak aW (ak aO (pv 6) (am aH (pv 10) ad fun _ _=>rfl)) (ak aO (ak aO (am aH (pv 9) ad fun _ _=>rfl) (am aH (pv 10) ad fun _ _=>rfl)) (pv 7))))
    (ah (psA 7 scNu.nd (ak aO (pv 7) (am aH (pv 10) ad fun _ _=>rfl))))))))
   (ac (psA 11 scNu.nd (ai gO hr rfl mO kO bO .nil ax (a0 (aK (a0 (pv 6) (a0 (pv 7) a9))) (a0 (pv 4) a9))))
   (ah (cj (PW.pt (qQ (aG eN (pv 11) ad (aA _)) (kZ (PW.pt (iV (aG cD (pv 11) ad (aA _)) (fY (dZ (pv 5) fun _=>rfl))))))) (ah (az ii)) aU)))))))
  (ah (az (c5 (rn hu60) (av (Dj.call_sortJ (P:=P) (w:=w) (K:=K) rfl rfl rfl rfl hu60) rfl B.so PyProof.Rows.boot_sorted (a0 (pv 1) a9)) (av (Dj.call_sortJ (P:=P) (w:=w) (K:=K) rfl rfl rfl rfl hu60) rfl B.so PyProof.Rows.boot_sorted (a0 (pv 2) a9)) (aA _))))),?_⟩
 have hL20:(20000:Nat)<=sizeLine:=by decide +kernel
 intro D nD;have s1:Same H (upd H D (Dj.dJ P w D [])):=aa nD;have d0:Dv.DAv P w K (upd H D (Dj.dJ P w D [])) D [] (fun _=> .bl true):=Dv.DAv.nil ⟨a8,fun p m=>by cases m⟩
 have wl:=hT.len;rw [yi] at wl;generalize upd H D (Dj.dJ P w D [])=H0 at s1 d0 ⊢;refine ag ?_
 try dsimp only
 refine ⟨_,rfl,lb,rfl,⟨_,SqL.of (s1 _ _ hl)⟩,?_⟩
 refine dC (xs:=xs) (fun i σ H'=>Same H H'/\∃(ks:List Tr) (g:Tr->Tr) (v3 v4 v5 v6 v7 v8 v9 v10 v11:Option V),σ= [some (.ref lb),some (.ref d),some (.ref D),v3,v4,v5,v6,v7,v8,v9,v10,v11]/\Dv.DAv P w K H' D ks g/\(∀t,t∈ks↔∃b∈bs.take i,∃p∈b.ps,p.1=t)/\∀t∈ks,t∈TL n j)
  ⟨s1,[],_,none,none,none,none,none,none,none,none,none,rfl,d0,(fun t=>by simp),fun t m=>by cases m⟩ (fun i σ H' _ p=>SqL.of (p.1 _ _ hl)) ?_ ?_
 . intro i x σ H1 ex z_;refine hZq fun q_ e_=> ?_;obtain ⟨sH,ks,g,v3,v4,v5,v6,v7,v8,v9,v10,v11,rfl,hDk,hks,hkT⟩:=z_;obtain ⟨u,eu,hu⟩:=hT.get' ex;rw [yo] at eu;obtain ⟨b,eb,rfl⟩:=yw.mp eu;have mb:=yq eb;have ub:=hU b mb;obtain ⟨r,xw,xm,xst,rfl,hr',hxw,hxm,hxs⟩:=eh hu;obtain ⟨au,ys,rfl,hau,hys⟩:=at_t hxw;obtain ⟨rm,rfl,hrm⟩:=eW hxm;subst e_;unfold TrAt at hxs;subst hxs;have yl:=hys.len;rw [yi] at yl;have l2:=ub.l2;refine ⟨r,_,rfl,SqT.of (sH _ _ hr'),rfl,_,_,rfl,_,_,rfl,_,_,rfl,rfl,?_⟩;refine ag ?_
   try dsimp only
   refine ag ?_
   try dsimp only
   refine ⟨_,rfl,au,rfl,⟨_,SqT.of (sH _ _ hau)⟩,?_⟩
   refine jg (xs:=ys) (fun q σ H'=>Same H H'/\∃(ks:List Tr) (g:Tr->Tr) (tp bo:Int) (v8 v9 v10:Option V),σ= [some (.ref lb),some (.ref d),some (.ref D),some (.ref au),some (.ref rm),some (.bl b.st),some (.int tp),some (.int bo),v8,v9,v10,v11]/\Dv.DAv P w K H' D ks g/\(∀t,t∈ks↔(∃c∈bs.take i,∃p∈c.ps,p.1=t)\/∃p∈b.ps.take q,p.1=t)/\(∀t∈ks,t∈TL n j)/\0 < bo/\Lt2 (1+q*(m+2)) tp/\Lt2 (1+q*(m+2)) bo/\rv ((tp,bo):Fr)=lin (gw us G) (b.ps.take q))
    ⟨sH,ks,g,0,1,v8,v9,v10,rfl,hDk,(fun t=>by rw [hks t];simp),hkT,by decide,by show (0:Nat) < _;exact Nat.pow_pos (by decide),ltO.mono (by omega),by rw [zg];exact rv_zero⟩ (fun i σ H' _ p=>SqT.of (p.1 _ _ hau)) ?_ ?_
   . intro q y σ H2 ey z_;refine hZq fun q_ e_=> ?_;obtain ⟨s2,ks,g,tp,bo,v8,v9,v10,rfl,hDk,hks,hkT,b0,ltt,ltb,erv⟩:=z_;obtain ⟨t',et',ht'⟩:=hys.get' ey;rw [yo] at et';obtain ⟨⟨tm,fr⟩,eq,rfl⟩:=yw.mp et';have mp:=yq eq;have ql:q < b.ps.length:=(yt.mp eq).1;have mTL:=ub.mem _ mp;obtain ⟨ty,dp⟩:=iC n9 mTL;have sh:=ub.sh _ mp;dsimp only at mTL ty dp sh;have mus:tm∈us:=(hTm.2 tm).mpr ⟨b,mb,_,mp,rfl⟩;obtain ⟨T',x1,y1,rfl,hT1,hx1,hy1⟩:=c6 ht';obtain ⟨rf,rfl,hrf⟩:=eW hy1;obtain ⟨bt,rfl⟩:=Dj.tm_ref ty hx1;subst e_;refine ⟨T',_,rfl,SqT.of (s2 _ _ hT1),rfl,_,_,rfl,_,_,rfl,rfl,?_⟩;obtain ⟨kvs,dj,pr⟩:=hDk.ex
     have kl:kvs.length<=9:=by
      rw [Paired.length pr];have:=Fm.sub_len hDk.nd hkT;rw [cf] at this;omega
     have hx2:=hx1.mono (Kd.of_same s2);refine ⟨_,rfl,_,rfl,D,bt,Dj.ktL tm,kvs,rfl,rfl,dj,Dj.key_tm ty dp hx2,by omega,?_⟩
     have hD3:=hDk.put (v:= .bl true) (f:= .bl true) ty dp hx2 (by unfold TrAt;rfl) dj fun _=>pr
     have s3:Same H (upd H2 D (Dj.dJ P w D (Dj.putJ kvs (Dj.ktL tm) bt (.bl true)))):=aF nD s2;generalize upd H2 D (Dj.dJ P w D (Dj.putJ kvs (Dj.ktL tm) bt (.bl true)))=H3 at hD3 s3 ⊢;refine hZq fun q_ e_=> ?_;obtain ⟨kvs2,djd,_,vin,_⟩:=(hD.same s3).val ty;obtain ⟨vv,ev,hv⟩:=vin mus;obtain ⟨rz,rfl,hrz⟩:=eW hv;subst e_;refine ⟨_,rfl,d,kvs2,rfl,djd,_,rfl,two,fun z nz=> ?_⟩;have sz:=aa (o:= .tup [.int 0, .int 1]) nz;refine ⟨bt,Dj.ktL tm,rfl,djd.kd (Kd.of_same sz) (sz _ _ djd.at_),Dj.key_tm ty dp (hx1.mono (Kd.of_same (s3.trans sz))),?_⟩;rw [ev];have hD4:=hD3.same sz;have s4:=s3.trans sz;have hrz4:=sz _ _ hrz;generalize upd H3 z (.tup [.int 0, .int 1])=H4 at hD4 s4 hrz4 ⊢;obtain ⟨shG,gfG⟩:=hG tm mus
     have q1:1+q*(m+2)<=8000:=by
      have:q*(m+2)<=1*(m+2):=zh _ (by omega)
      omega
     have bs1:Lt2 1 fr.1:=by rcases sh with h|h<;>rw [h]<;>exact ltO
     refine ag ?_
     try dsimp only
     refine ⟨_,rfl,_,rfl,rz,_,1, .int (G tm).2,rfl,rfl,SqT.of hrz4,rfl,_,_,rfl,rfl,⟨ltt.big q1,gfG.bot.big (by omega)⟩,_,rfl,rf,_,0, .int fr.1,rfl,rfl,SqT.of (s4 _ _ hrf),rfl,_,rfl,rz,_,0, .int (G tm).1,rfl,rfl,SqT.of hrz4,rfl,_,_,rfl,rfl,⟨bs1.big (by omega),gfG.top.big (by omega)⟩,_,rfl,_,_,rfl,rfl,⟨(bs1.mul gfG.top).big (by omega),ltb.big q1⟩,_,_,rfl,rfl,?_⟩
     refine ag ?_
     try dsimp only
     refine ⟨_,rfl,_,rfl,rz,_,1, .int (G tm).2,rfl,rfl,SqT.of hrz4,rfl,_,_,rfl,rfl,⟨ltb.big q1,gfG.bot.big (by omega)⟩,?_⟩
     refine ag ?_
     try dsimp only
     have e1:1+(q+1)*(m+2)=(1+q*(m+2))+m+2:=by rw [Nat.add_mul];omega
     refine ⟨s4,_,_,_,_,_,_,_,rfl,hD4,fun t=> ?_,fun t mt=> ?_,zP b0 gfG.pos,?_,?_,?_⟩
     . rw [addK_mem,hks t,ay eq];simp only [yN,yD];constructor
       . rintro ((h|⟨p,mp,e⟩)|rfl)
         . exact .inl h
         . exact .inr ⟨p, .inl mp,e⟩
         . exact .inr ⟨_, .inr rfl,rfl⟩
       . rintro (h|⟨p,mp|rfl,e⟩)
         . exact .inl (.inl h)
         . exact .inl (.inr ⟨p,mp,e⟩)
         . exact .inr e.symm
     . rcases addK_mem.mp mt with mt|rfl
       . exact hkT t mt
       . exact mTL
     . rw [e1];exact (((ltt.mul gfG.bot).mono (by omega)).add (((bs1.mul gfG.top).mul ltb).mono (n:=(1+q*(m+2))+m+1) (by omega)):Lt2 ((1+q*(m+2))+m+1+1) _)
     . rw [e1];exact (ltb.mul gfG.bot).mono (by omega)
     . rw [tV b0 gfG.pos,erv,ay eq,ja];have eg:gw us G tm=rv (G tm):=by unfold gw;rw [if_pos mus]
       have es:rv fr=(fr.1:Rat):=f8 fr.1 (by rcases sh with rfl|rfl<;>rfl)
       simp only [lin];rw [eg,es];show lin (gw us G) (b.ps.take q)+(fr.1:Rat)*rv (G tm)=_;grind
   . intro σ H2 z_;refine hZq fun q_ e_=> ?_;obtain ⟨s2,ks,g,tp,bo,v8,v9,v10,rfl,hDk,hks,hkT,b0,ltt,ltb,erv⟩:=z_;subst e_;rw [yl,yO] at erv
     have q1:1+ys.length*(m+2)<=8000:=by
      have:ys.length*(m+2)<=2*(m+2):=zh _ (by omega)
      omega
     have lm2:=ub.m2;have lm1:=ub.m1
     have bl1:Lt2 4 b.lim.1:=by
      show b.lim.1.natAbs < 2^4;omega
     have bl2:Big b.lim.2:=by rw [lm2];exact ltO.big (by omega)
     refine ⟨_,rfl,_,rfl,two,fun p np=> ?_⟩;have sp:=aa (o:= .tup [.int tp, .int bo]) np;refine ⟨_,rfl,p,rm,tp,bo,b.lim.1,b.lim.2,rfl,SqT.of a8,SqT.of (sp _ _ (s2 _ _ hrm)),ltt.big q1,ltb.big q1,bl1.big (by omega),bl2,?_⟩
     have s3:=s2.trans sp;have hD3:=hDk.same sp;generalize upd H2 p (.tup [.int tp, .int bo])=H3 at sp s3 hD3 ⊢;refine ag ?_
     try dsimp only
     rw [lm2,Int.mul_one];have hm:=hMet b mb;rw [<-erv] at hm;have e1:=kX (p:=(tp,bo)) (q:=b.lim) b0 (by rw [lm2];decide)
     dsimp only at e1;rw [lm2,Int.mul_one] at e1;have e2:=vM (p:=(tp,bo)) (q:=b.lim) b0 (by rw [lm2];decide)
     dsimp only at e2;rw [lm2,Int.mul_one] at e2
     have nlt:¬0 < tp - b.lim.1*bo:=fun z=>by
      rcases hm with h|⟨h,_⟩
      . have:=e1.mpr h;omega
      . have:=e2.mpr h;omega
     have fin:Same H H3/\∃(ks:List Tr) (g:Tr->Tr) (v3' v4' v5' v6' v7' v8' v9' v10' v11':Option V),([some (.ref lb),some (.ref d),some (.ref D),some (.ref au),some (.ref rm),some (.bl b.st),some (.int tp),some (.int bo),v8,v9,v10,v11].set 11 (some (.int (tp - b.lim.1*bo))))= [some (.ref lb),some (.ref d),some (.ref D),v3',v4',v5',v6',v7',v8',v9',v10',v11']/\Dv.DAv P w K H3 D ks g/\(∀t,t∈ks↔∃b∈bs.take (i+1),∃p∈b.ps,p.1=t)/\∀t∈ks,t∈TL n j:=by
      refine ⟨s3,ks,g,_,_,_,_,_,_,_,_,_,rfl,hD3,fun t=> ?_,hkT⟩;rw [hks t,yl,yO,ay eb];simp only [yN,yD];constructor
      . rintro (⟨c,mc,h⟩|h)
        . exact ⟨c, .inl mc,h⟩
        . exact ⟨b, .inr rfl,h⟩
      . rintro ⟨c,mc|rfl,h⟩
        . exact .inl ⟨c,mc,h⟩
        . exact .inr h
     refine ⟨_,rfl,tp - b.lim.1*bo,0,rfl,rfl,_,rfl,?_⟩;refine ite2 (fun c=>absurd (of_decide_eq_true c) nlt) (fun _=> ?_);refine ⟨_,rfl,rfl,_,rfl,?_⟩;refine ite2 (fun c=> ?_) (fun _=>iteF fin)
     have c0:tp - b.lim.1*bo=0:=by
      have:=of_decide_eq_true c;injection this
     have st:b.st=false:=by
      rcases hm with h|⟨_,h⟩
      . have:=e1.mpr h;omega
      . exact h
     refine ⟨_,rfl,b.st,rfl,?_⟩;exact ite2 (fun c=>by rw [st] at c;cases c) (fun _=>fin)
 . intro σ H1 z_;refine hZq fun q_ e_=> ?_;obtain ⟨sH,ks,g,v3,v4,v5,v6,v7,v8,v9,v10,v11,rfl,hDk,hks,hkT⟩:=z_;rw [wl,yO] at hks;have same:∀t,t∈us↔t∈ks:=fun t=>by rw [hTm.2 t,hks t]
   have pm:us.Perm ks:=(List.perm_ext_iff_of_nodup hTm.1 hDk.nd).mpr same;have uT:∀t∈us,t∈TL n j:=fun t m=>hkT t ((same t).mp m)
   have ul:us.length<=9:=by
    have:=Fm.sub_len hTm.1 uT;rw [cf] at this;omega
   have kl:ks.length<=9:=by rw [<-pm.length_eq];exact ul
   obtain ⟨kv1,dj1,tr1⟩:=(hD.same sH).keys;obtain ⟨kv2,dj2,tr2⟩:=hDk.keys;subst e_;have tyu:∀t∈us,Ty .tm t/\t.depth<=7:=fun t m=>iC n9 (uT t m);have tyk:∀t∈ks,Ty .tm t/\t.depth<=7:=fun t m=>iC n9 (hkT t m);refine ⟨_,rfl,d,kv1,us,rfl,dj1,tr1,by omega,fun t m=>⟨Dj.tm_hs (tyu t m).1,cY (tyu t m).1,by have:=(tyu t m).2;omega⟩,fun t m u mu=>jz 30 (by have:=(tyu t m).2;omega) (tyu t m).1 (tyu u mu).1,fun D1 ws1 us1 n1 pm1 hT1 srt1=> ?_⟩
   have t1:=aa (o:= .lst ws1) n1;refine ⟨_,rfl,D,kv2,ks,rfl,dj2.kd (Kd.of_same t1) (t1 _ _ dj2.at_),tr2.mono (Kd.of_same t1),by omega,fun t m=>⟨Dj.tm_hs (tyk t m).1,cY (tyk t m).1,by have:=(tyk t m).2;omega⟩,fun t m u mu=>jz 30 (by have:=(tyk t m).2;omega) (tyk t m).1 (tyk u mu).1,fun D2 ws2 us2 n2 pm2 hT2 srt2=> ?_⟩
   have t2:=aa (o:= .lst ws2) n2;obtain rfl:us1=us2:=vH (fun t m=>(tyu t (pm1.mem_iff.mp m)).1) (pm1.trans (pm.trans pm2.symm)) srt1 srt2;refine ⟨D1,D2,ws1,ws2,us1,us1,rfl,rfl,t2 _ _ a8,a8,hT1.mono (Kd.of_same (t1.trans t2)),hT2.mono (Kd.of_same t2), .inl ?_,?_,?_⟩
   . exact (iH fun t m=>⟨cY (tyu t (pm1.mem_iff.mp m)).1,(tyu t (pm1.mem_iff.mp m)).2⟩).1
   . have:=(iH fun t m=>⟨cY (tyu t (pm1.mem_iff.mp m)).1,(tyu t (pm1.mem_iff.mp m)).2⟩).2;omega
   . rw [eqTs_refl];exact k _ (sH.trans (t1.trans t2))
end
end K45
namespace Dj
open PySem PySem.Spec PyProof.Rows L2 Tre Wd Su
noncomputable def Itd (a:Addr) (o:Obj) (u:HO) (ks:List V):It:=⟨fun i H=>H a=some (.frz o u)/\i < ks.length,fun i H x H'=>H'=H/\ks[i]?=some x,fun i H=>H a=some (.frz o u)/\ks.length<=i⟩
section
variable {X:Cx} {pins:List (Addr×Obj)} {σ:L2.St} {H:Hp} {s:Shared} {a:Addr}
theorem uG {kvs:List Ent} {o:Obj} {P:Program} {w:World} (I:Inv X pins σ H s) (ha:H a=some (dJ P w a kvs)) (ho:s.heap.get? a=some o):Inv X pins σ (upd H a (.frz o (dJ P w a kvs))) s:=by
 have ne:∀ {b:Addr} {u:HO},H b=some u->(∀z,dJ P w a kvs=z->u≠z)->b≠a:=fun e q z=>by
  rw [z,ha] at e;exact q _ rfl (yF e).symm
 have st:∀ {b:Addr} {u:HO},ObjOk X.prog X.w H s.heap b u->ObjOk X.prog X.w (upd H a (.frz o (dJ P w a kvs))) s.heap b u:=fun x=>
  x.stay (fun _ _ _ q=>q) (fun b q=>by rw [ae (ne q fun z e=>by subst e;intro t;cases t)];exact q) fun b xs q=>by rw [ae (ne q fun z e=>by subst e;intro t;cases t)];exact q
 exact I.step (h':=s.heap) (g':=s.gens) (d':=s.drawn) (t':=s.toks) (ch:= []) (fun _ z=>nomatch z) (fun b o _ _ _ e _=>e) (fun b o _ _ _ e _=>⟨o.slots,e⟩)
  (fun b o _ e n=>by rw [ae (fun z=>by rw [z,ha] at n;cases n)];exact n) (fun b o _ e=>⟨o,e⟩)
  (fun b xs e=>by rw [ae (ne e fun z q=>by subst q;intro t;cases t)];exact e) (fun b o' u e=>by rw [ae (ne e fun z q=>by subst q;intro t;cases t)];exact e)
  (fun b ps e=>⟨#[],by rw [ae (ne e fun z q=>by subst q;intro t;cases t),e];simp⟩) (fun m hm=>hm) (fun b u e=>by
   by_cases z:b=a
   . subst z;rw [a8] at e;cases e;exact ⟨ho,st (I.hok b _ ha)⟩
   . rw [ae z] at e
     exact st (I.hok b u e)) I.bare
end
end Dj
namespace Dj
open PySem PySem.Spec PySem.W PyProof.Rows L2 Tre
section
variable {prog:Program} {w:World} {A:Around} {E:Value->Shared->Prop} {s:Shared} {d it v:Addr} {es:Array DictEntry} {ep:Nat}
end
theorem gK {α β:Type} {F:α->β->Prop}:∀ {l₁:List α} {l₂:List β} {i:Nat} {a:α},Paired F l₁ l₂->l₁[i]?=some a->∃b,l₂[i]?=some b/\F a b
 |_,_,i,a, .nil,h=>by simp at h
 |_,_,0,a, .cons r _,h=>by
  simp at h;subst h;exact ⟨_,rfl,r⟩
 |_,_,i+1,a, .cons _ rs,h=>by
  obtain ⟨b,e,q⟩:=gK (i:=i) rs (by simpa using h)
  exact ⟨b,by simpa using e,q⟩
section
variable {X:Cx}
end
open PySem PySem.Spec PySem.W PyProof.Rows L2 Tre
section
variable {prog:Program} {w:World} {A:Around} {E:Value->Shared->Prop} {s:Shared} {d it v:Addr} {es:Array DictEntry} {ep:Nat}
theorem kY {Q:Value->Shared->Prop} (hd:(d==sysModules)=false) (hm:RawD s.heap d es ep)
 (hQ:Q (.ref s.heap.objs.size) {s with heap:=s.heap.push {cls:= .type "dict_values",data:= .fields #[.ref d]}}):wpAny (model prog w) A (call (.builtin "dict.values") [.ref d]) Q E s:=by
 have hT:=hm.ty;refine wpAny_call_entry F.slot_dict_values hT F.entry_dict_values ?_ (F.args_dict_values_1 _);unfold Builtin.«dict.values»;refine wpAny_bind ?_;unfold Builtin.Dict.noArgs;refine wpAny_bind (wpAny_notOrdered_dict hT ?_);show wpAny _ _ (pure d) _ _ s;refine wpAny_pure ?_;show wpAny _ _ (Builtin.Dict.showsAll d >>=_) _ _ s;unfold Builtin.Dict.showsAll;rw [if_neg (by rw [hd];exact yE)]
 refine wpAny_bind (wpAny_pure ?_);exact wpAny_bind (wpAny_newObj_type (wpAny_pure ⟨_,rfl,hQ⟩))
theorem jx {Q:Value->Shared->Prop} (hv:s.heap.IsValuesView v d) (hm:RawD s.heap d es ep)
 (hQ:Q (.ref s.heap.objs.size) {s with heap:=s.heap.push {cls:= .type "dict_valueiterator",data:= .fields #[.ref d, .int 0 0, .int es.size 0, .int ep 0]}}):
 wpAny (model prog w) A (pyIter (.ref v)) Q E s:=by
 obtain ⟨ov,hov,hcv,hdv⟩:=id hv;obtain ⟨o,ho,hc,hdat⟩:=id hm;refine wpAny_pyIter_slot hv.typeIs F.slot_dict_values_iter (wpAny_call_entry F.slot_dict_values_iter hv.typeIs F.entry_dict_values_iter ?_ (F.args_dict_values_iter_1 _));unfold Builtin.«dict_values.__iter__»;refine wpAny_bind (wpAny_pure ?_);refine wpAny_bind ?_;unfold Builtin.Dict_items.dictOf;refine wpAny_bind (wpAny_field hov hdv (x:= .ref d) rfl (wpAny_pure ?_));refine wpAny_bind ?_;unfold Builtin.Dict_items.newIterator;refine wpAny_bind (wpAny_dictEntries ho hdat ?_);refine wpAny_bind (wpAny_dictEpoch ho hdat ?_);have hown:Builtin.Dict_items.ownsTuple "dict_valueiterator"=false:=by decide
 simp only [hown,zm,if_false];refine wpAny_newObj_type (wpAny_pure ⟨_,rfl,"dict_valueiterator",_,⟨_,Heap.get?_push_size _ rfl,rfl⟩,F.slot_dict_valueiterator_next.lookup,?_⟩);simpa [rawInt] using hQ
theorem oO {i:Nat} {Q:Option Value->Shared->Prop} (hit:s.heap.IsValIter it d i es.size ep) (hm:RawD s.heap d es ep) (hi:i < es.size)
 (hQ:∀h',h'.IsValIter it d (i+1) es.size ep->Heap.SameBut it s.heap h'->Q (some es[i].val) {s with heap:=h'}):wpAny (model prog w) A (pyNext (.ref it)) Q E s:=by
 obtain ⟨o,ho,hc,hd⟩:=id hit;obtain ⟨od,hod,hcd,hdd⟩:=id hm;have hown:Builtin.Dict_items.ownsTuple "dict_valueiterator"=false:=by decide
 unfold pyNext;refine wpAny_bind (wpAny_attempt (wpAny_callSpecial?_slot (name:=Str.ofString "__next__") hit.typeIs F.slot_dict_valueiterator_next (wpAny_call_entry F.slot_dict_valueiterator_next hit.typeIs F.entry_dict_valueiterator_next ?_ (F.args_dict_valueiterator_next_1 _))));refine wpAny_bind (wpAny_pure (wpAny_bind (wpAny_bind ?_)))
 first|refine wpAny_bind (wpAny_typeNameOfWhole_valiter hit.typeIs (wpAny_pure (wpAny_bind (wpAny_fieldsOf ho hd ?_))))|refine wpAny_bind (wpAny_typeNameOf_valiter hit.typeIs (wpAny_pure (wpAny_bind (wpAny_fieldsOf ho hd ?_))))
 simp only [hown,zm,if_false];show wpAny _ _ (if (Value.ref d==Value.none)=true then _ else _) _ _ s;rw [if_neg (show¬((Value.ref d==Value.none)=true) from yE)];refine wpAny_bind (wpAny_pure (wpAny_bind (wpAny_dictEntries hod hdd ?_)));rw [if_neg (by simp)];refine wpAny_bind (wpAny_pure (wpAny_bind (wpAny_dictEpoch hod hdd ?_)));rw [if_neg (by simp)];refine wpAny_pure ?_
 simp only [show¬((i:Int) < 0) from by omega,if_false,zp,yV hi];refine wpAny_bind ?_
 first|refine wpAny_bind (wpAny_typeNameOfWhole_valiter hit.typeIs (wpAny_pure (wpAny_bind (wpAny_isOneOf_valiter hit.typeIs ?_))))|refine wpAny_bind (wpAny_typeNameOf_valiter hit.typeIs (wpAny_pure (wpAny_bind (wpAny_isOneOf_valiter hit.typeIs ?_))))
 show wpAny _ _ (setField (.ref it) 1 (rawInt ((i:Int)+1)) >>=_) _ _ s;refine wpAny_bind (wpAny_setField ho hd (by simp) ?_)
 have hit':(s.heap.update it (Obj.mapFields (·.setIfInBounds 1 (rawInt ((i:Int)+1))))).IsValIter it d (i+1) es.size ep:=⟨_,Heap.get?_update_self _ ho (Obj.isFreed_of_fields (Obj.data_mapFields hd _)),(Obj.cls_mapFields ..).trans hc,by rw [Obj.data_mapFields hd];simp [rawInt]⟩
 refine wpAny_bind (wpAny_holding (wpAny_bind (wpAny_isOneOf_valiter (s:= {s with heap:=s.heap.update it (Obj.mapFields (·.setIfInBounds 1 (rawInt ((i:Int)+1))))}) hit'.typeIs ?_)));show wpAny _ _ (Builtin.Dict_items.isOneOf (Value.ref it) ["dict_valueiterator","dict_reversevalueiterator"] >>=_) _ _ _;refine wpAny_bind (wpAny_isOneOf_valiter (s:= {s with heap:=s.heap.update it (Obj.mapFields (·.setIfInBounds 1 (rawInt ((i:Int)+1))))}) hit'.typeIs ?_);show wpAny _ _ (pure es[i].val) _ _ _;exact wpAny_pure (wpAny_pure ⟨_,rfl,wpAny_pure (hQ _ hit' (Heap.SameBut.update ..))⟩)
theorem tE {i:Nat} {Q:Option Value->Shared->Prop} (hh:A.handled=none) (hit:s.heap.IsValIter it d i es.size ep) (hm:RawD s.heap d es ep) (hi:es.size<=i)
 (hQ:∀h',Heap.ExtBut it s.heap h'->Q none {s with heap:=h'}):wpAny (model prog w) A (pyNext (.ref it)) Q E s:=by
 obtain ⟨o,ho,hc,hd⟩:=id hit;obtain ⟨od,hod,hcd,hdd⟩:=id hm;have hown:Builtin.Dict_items.ownsTuple "dict_valueiterator"=false:=by decide
 unfold pyNext;refine wpAny_bind (wpAny_attempt (wpAny_callSpecial?_slot (name:=Str.ofString "__next__") hit.typeIs F.slot_dict_valueiterator_next (wpAny_call_entry F.slot_dict_valueiterator_next hit.typeIs F.entry_dict_valueiterator_next ?_ (F.args_dict_valueiterator_next_1 _))));refine wpAny_bind (wpAny_pure (wpAny_bind (wpAny_bind ?_)))
 first|refine wpAny_bind (wpAny_typeNameOfWhole_valiter hit.typeIs (wpAny_pure (wpAny_bind (wpAny_fieldsOf ho hd ?_))))|refine wpAny_bind (wpAny_typeNameOf_valiter hit.typeIs (wpAny_pure (wpAny_bind (wpAny_fieldsOf ho hd ?_))))
 simp only [hown,zm,if_false];show wpAny _ _ (if (Value.ref d==Value.none)=true then _ else _) _ _ s;rw [if_neg (show¬((Value.ref d==Value.none)=true) from yE)];refine wpAny_bind (wpAny_pure (wpAny_bind (wpAny_dictEntries hod hdd ?_)));rw [if_neg (by simp)];refine wpAny_bind (wpAny_pure (wpAny_bind (wpAny_dictEpoch hod hdd ?_)));rw [if_neg (by simp)];refine wpAny_pure ?_
 simp only [show¬((i:Int) < 0) from by omega,if_false,zp,Array.getElem?_eq_none hi];refine wpAny_bind ?_
 first|refine wpAny_bind (wpAny_typeNameOfWhole_valiter hit.typeIs (wpAny_pure ?_))|refine wpAny_bind (wpAny_typeNameOf_valiter hit.typeIs (wpAny_pure (A:=A.in1) ?_))
 show wpAny _ _ (setField (.ref it) 0 .none >>=_) _ _ s;refine wpAny_bind (wpAny_setField ho hd (by simp) ?_)
 show wpAny _ _ (newExc (.type "StopIteration") [] >>=_) _ _ _;refine wpAny_bind ?_;simp only [newExc,newTuple];refine wpAny_bind (wpAny_newObj_type (wpAny_bind (m:=firstArgMember _ _) (wpAny_of_eq (a:=Value.none) (by first|rfl|(simp only [firstArgMember];rfl)) (wpAny_newObj_type ?_ (by size_fits)))) (by size_fits))
 simp only [raiseNew];refine wpAny_bind (wpAny_handled ?_);rw [show A.in1.handled=none from hh];refine wpAny_bind (wpAny_pure (wpAny_throw ?_));refine wpAny_bind (wpAny_isInstance (T:="StopIteration") (b:=true) ⟨_,Heap.get?_push_size _ rfl,rfl⟩ isSubtype_stop ?_);exact wpAny_pure (hQ _ (((Heap.SameBut.update ..).extBut.push _).push _))
end
theorem nZ {P:Program} {w:World} {K:PySem.W.Frag} {tg:Expr} {a it:Addr} {o:Obj} {u:HO} {es:Array DictEntry} {ep:Nat} {ks:List V} (hx:o.ExactDict) (hd:o.data= .dict es ep) (hl:ks.length=es.size) (hk:∀i (h:i < es.size),∃v,ks[i]?=some v/\RelV v es[i].val):
 Turn P w K tg (Itd a o u ks) [it] it (fun i h=>h.IsValIter it a i es.size ep) where
 mem:=by simp
 obj:=fun i h st b hb=>by
  have e:b=it:=by simpa using hb
  subst e;obtain ⟨o,e,c,d⟩:=st;exact ⟨o,e,fun v z=>by rw [d] at z;cases z⟩
 keep:=fun i h h' st k=>st.at fun o e=>k it (by simp) o e
 item:=by
  intro X hP hw hK hc i pins s σ H E I hf st hg;subst hP hw hK;refine hZq fun q_ e_=> ?_;obtain ⟨ha,hi⟩:=hg;have raw:RawD s.heap a es ep:=⟨o,(I.hok a _ ha).1,hx,hd⟩;obtain ⟨f0,f1,f2,f3,f4,f5⟩:=hf it (by simp)
  obtain ⟨v,hv,rv⟩:=hk i (by omega)
  subst e_;refine oO st raw (by omega) fun h' st' sb=> ?_
  have I1:Inv X pins σ H {s with heap:=h'}:=I.turned (t':=s.toks) (fun b o hb e=>(sb.2 b hb).trans e) f0 f1 f3 f4 f5;obtain ⟨o',e,c,d⟩:=id st';exact ⟨_,rfl,ny (s:= {s with heap:=h'}) e c d (by decide) ⟨v,H,I1,rv,⟨rfl,hv⟩,st',fun b hb=>(hf b hb).1⟩⟩
 done:=by
  intro X hP hw hK hc i pins s σ H E I hf st hg;subst hP hw hK;refine hZq fun q_ e_=> ?_;obtain ⟨ha,hi⟩:=hg;have raw:RawD s.heap a es ep:=⟨o,(I.hok a _ ha).1,hx,hd⟩;obtain ⟨f0,f1,f2,f3,f4,f5⟩:=hf it (by simp)
  subst e_;exact tE (I.ok.hd hc) st raw (by omega) fun h' eb=>⟨rfl,I.turned (t':=s.toks) (fun b o hb e=>eb b o hb e) f0 f1 f3 f4 f5⟩
 self:=fun A i s Q E st hq=>wpAny_pyIter_valiter st hq
section
variable {X:Cx}
noncomputable def jF (P:Program) (w:World) (K:PySem.W.Frag):V->List V->Hp->VK->Prop:=fun x vs H Q=>∃a kvs,x= .ref a/\vs= []/\DJ P w K H a kvs/\∀v,H v=none->Q (.ref v) (upd H v (cX v a))
noncomputable def jV (P:Program) (w:World) (K:PySem.W.Frag) (tl:TE):TI:=fun σ H R=>tl σ H fun x H1=>∃v a kvs,x= .ref v/\H1 v=some (cX v a)/\DJ P w K H1 a kvs/\∀o,R (Itd a o (dJ P w a kvs) (kvs.map fun e=>e.2.2)) (upd H1 a (.frz o (dJ P w a kvs)))
theorem jM:MtM X "dict.values" (jF X.prog X.w X.K):=by
 intro pins s σ H x vs u us Q I rx rv h;obtain ⟨a,kvs,rfl,rfl,d,q⟩:=h;cases rx;cases rv.zero;obtain ⟨z,hd,xs,rel,o,es,ep,h1,h2,h3,h4,h5⟩:=fP I.hok I.kIn d;refine kY hd (⟨o,h1,h2,h3⟩:RawD s.heap a es ep) ?_;exact ⟨.ref _,_,I.laid (t':=s.toks) (fun b ob e=>Heap.get?_push_of_some _ e) (yp _) (lT ⟨_,Heap.get?_push_size _ rfl,rfl,rfl⟩),rfl,q _ (I.hok.fresh (yp _))⟩
theorem jI {tg l:Expr} {tl:TE} (hl:PE X l tl):PI X tg l (jV X.prog X.w X.K tl):=by
 intro pins s σ H R I h;refine thn (hl pins s σ H _ I h) fun v s1 ⟨x,H1,I1,r1,q1⟩=> ?_;refine hZq fun q_ e_=> ?_;obtain ⟨vw,a,kvs,e,hv,d,q⟩:=q1;subst e_;subst e;cases r1;refine hZq fun q_ e_=> ?_;obtain ⟨z,hd,xs,rel,o,es,ep,h1,h2,h3,h4,h5⟩:=fP I1.hok I1.kIn d;obtain ⟨hview,_⟩:=(show ObjOk X.prog X.w H1 s1.heap vw (cX vw a) from I1.hok vw _ hv);subst e_;have raw:RawD s1.heap a es ep:=⟨o,h1,h2,h3⟩
 have le:es.size=xs.length:=by
  have:=congrArg List.length h4;simpa using this
 have kx:=Paired.length rel;have lk:(kvs.map fun e=>e.2.2).length=es.size:=by rw [yi,kx,le]
 refine jx hview raw ?_;have I2:=uG I1 d.at_ h1;refine ⟨s1.heap.objs.size,[s1.heap.objs.size],_,_,_,rfl,I2.kept (t':=s1.toks) fun b o e=>Heap.get?_push_of_some _ e,nZ h2 h3 lk (fun i hi=> ?_),⟨_,Heap.get?_push_size _ rfl,rfl,rfl⟩,fun b hb=> ?_,q o⟩
 . have hi':i < xs.length:=by omega
   have hi2:i < kvs.length:=by omega
   obtain ⟨y,ey,r⟩:=gK rel (yj hi2);refine ⟨(kvs[i]).2.2,by rw [yo,yj hi2];rfl,?_⟩
   have e1:es[i]=entryOfKey (Tk.treeKind X.prog X.w) y:=by
    have:es.toList[i]?=(xs.map (entryOfKey (Tk.treeKind X.prog X.w)))[i]?:=by rw [h4]
    rw [yo,ey,yQ,yV hi] at this;exact yF this
   rw [e1];exact r.2.2
 . have e:b=s1.heap.objs.size:=by simpa using hb
   subst e;exact I2.fpOk (yp _) (I2.hok.fresh (yp _))
theorem pi_valuesJ {tg l:Expr} {tl:TE} {P:Program} {w:World} {K:PySem.W.Frag} (hP:X.prog=P) (hw:X.w=w) (hK:X.K=K) (hl:PE X l tl):PI X tg l (jV P w K tl):=by
 subst hP hw hK;exact jI hl
end
noncomputable def pB (P:Program) (w:World) (K:PySem.W.Frag) (td:TE):TE:=fun σ H Q=>td σ H fun x H1=>jF P w K x [] H1 Q
theorem pe_valuesJ {X:Cx} {P:Program} {w:World} {K:PySem.W.Frag} {o:Expr} {td:TE} {apos cpos:Pos} (hP:X.prog=P) (hw:X.w=w) (hK:X.K=K) (ho:PE X o td)
 (hbase:attributeBase o "values" X.env (eval o X.env)=eval o X.env:=by rfl) (hline:(apos.endLine==cpos.line)=true:=by rfl):PE X (.Call (.Attribute o "values" apos) [] [] cpos) (pB P w K td):=by
 subst hP hw hK;intro pins s σ H Q I h;refine wpAny_Call_method0_late hbase hline (thn (ho pins s σ H _ I h) fun v s1 ⟨x,H1,I1,r1,q1⟩=> ?_);obtain ⟨a,kvs,rfl,_,d,q⟩:=id q1;cases r1
 have ty0:s1.TypeIs (.ref a) "dict"/\∀b,Value.ref a= .ref b->∃ob,s1.heap.get? b=some ob/\ob.dict=none:=by
  obtain ⟨_,_,xs,_,dd⟩:=fP I1.hok I1.kIn d;refine ⟨dd.typeIs,fun b q=> ?_⟩;cases q;obtain ⟨ob,_,_,h1,h2,_⟩:=dd;exact ⟨ob,h1,h2.2.1⟩
 exact ⟨"dict","dict.values",PySem.F.plainAttrs_dict,PySem.F.slot_dict_values,PySem.F.type_dict_values,ty0.1,ty0.2,Calls.callWith_builtin rfl (PySem.evalArgs_none (jM pins s1 σ H1 (.ref a) [] _ [] Q I1 rfl .nil q1))⟩
theorem comp_valuesT {a D:Addr} {o:Obj} {u:HO} {ks:List V} {tc:TT} {te:TE} {rest:L2.St} {Q:VK} {H1:Hp} (Pv:Nat->List V->Hp->Prop) (h0:Pv 0 [] (upd H1 D (.lst [])))
 (hl:∀i acc H,Pv i acc H->H a=some (.frz o u))
 (hs:∀i x acc H,i < ks.length->ks[i]?=some x->Pv i acc H->tc (some x::rest) H fun b H5=>if b=true then te (some x::rest) H5 (CompN ks.length i D acc Pv) else CompS ks.length i acc Pv H5)
 (hd:∀acc H,Pv ks.length acc H->Q (.ref D) H):jw (Itd a o u ks) D tc te rest Q H1:=by
 refine ⟨fun i m acc H=>m=ks.length - i/\i<=ks.length/\Pv i acc H,⟨ks.length,by simp,yJ _,h0⟩,?_⟩
 rintro i m acc H ⟨rfl,hi,p⟩;by_cases hlt:i < ks.length
 . refine .inr ⟨⟨hl i acc H p,hlt⟩,fun x H' y=>⟨ext1,?_⟩⟩;obtain ⟨rfl,ek⟩:=y;exact hs i x acc _ hlt ek p
 . have e:i=ks.length:=by omega
   subst e;exact .inl ⟨⟨hl _ acc H p,yp _⟩,hd acc H p⟩
end Dj
namespace K45
open PySem L2 Mth Tre Wd Su
noncomputable def com:List Wt->Int
 | []=>1
 |k::r=>k.2.2*com r
theorem nR:∀(a b:List Wt),com (a++b)=com a*com b
 | [],b=>by show com b=1*com b;rw [Int.one_mul]
 |k::r,b=>by
  show k.2.2*com (r++b)=k.2.2*com r*com b;rw [nR r b,zt]
theorem jp:∀ {a:List Wt},(∀k∈a,0 < k.2.2)->0 < com a
 | [],_=>by show (0:Int) < 1;decide
 |k::r,h=>zP (h k yn) (jp fun x m=>h x (ym _ m))
theorem nQ:∀ {a:List Wt} {k:Wt},k∈a->k.2.2∣com a
 | [],k,m=>by cases m
 |x::r,k,m=>by
  rcases yx.mp m with rfl|m
  . exact ⟨com r,rfl⟩
  . obtain ⟨c,hc⟩:=nQ m;exact ⟨x.2.2*c,by show x.2.2*com r=k.2.2*(x.2.2*c);rw [hc,<-zt,<-zt,zy x.2.2 k.2.2]⟩
theorem lN {m:Nat}:∀ {a:List Wt},(∀k∈a,Lt2 m k.2.2)->Lt2 (1+a.length*m) (com a)
 | [],_=>ltO.mono (by omega)
 |k::r,h=>by
  have i:=lN fun x mx=>h x (ym k mx);have:=(h k yn).mul i;exact this.mono (by rw [yH,Nat.succ_mul];omega)
theorem ut {a:List Wt} {k:Wt} (mk:k∈a) (hp:∀k∈a,0 < k.2.2) (h1:0 < k.2.1):((k.2.1*com a / k.2.2:Int):Rat)=rv k.2*(com a:Rat)/\1<=k.2.1*com a / k.2.2:=by
 obtain ⟨c,hc⟩:=nQ mk;have k0:=hp k mk
 have e:k.2.1*com a / k.2.2=k.2.1*c:=by
  rw [hc,<-zt,zy k.2.1 k.2.2,zt,zK _ (by omega)]
 have c0:0 < c:=by
  have:=jp hp;rw [hc] at this;exact Int.pos_of_mul_pos_right this (by omega)
 refine ⟨?_,?_⟩
 . rw [e,hc];have n:(k.2.2:Rat)≠0:=cB k0;unfold rv;rw [Rat.intCast_mul,Rat.intCast_mul];grind
 . rw [e];have:=zP h1 c0;omega
structure Vl (ks:List Tr) (g:Tr->Tr) (F:Tr->Rat) (e:Nat):Prop where
 v:∀t∈ks,∃s:Int,g t= .int s/\(s:Rat)=F t/\Lt2 e s
 z:∀t,t∉ks->F t=0
theorem Vl.mono {ks:List Tr} {g:Tr->Tr} {F:Tr->Rat} {e e':Nat} (h:Vl ks g F e) (he:e<=e'):Vl ks g F e':=⟨fun t m=>by
 obtain ⟨s,a,b,c⟩:=h.v t m
 exact ⟨s,a,b,c.mono he⟩,h.z⟩
open Classical in
theorem Vl.put {ks:List Tr} {g:Tr->Tr} {F F':Tr->Rat} {e:Nat} {tm:Tr} {s y:Int} (h:Vl ks g F e) (hs:(s:Rat)=F tm) (ls:Lt2 e s) (ly:Lt2 e y) (hF:∀t,F' t=F t+if tm=t then (y:Rat) else 0):Vl (Dj.addK ks tm) (Dv.setV g tm (.int (s+y))) F' (e+1):=by
 refine ⟨fun t m=> ?_,fun t n=> ?_⟩
 . by_cases et:t=tm
   . subst et;refine ⟨s+y,by unfold Dv.setV;rw [if_pos rfl],?_,ls.add ly⟩
     rw [hF,if_pos rfl,<-hs,Rat.intCast_add]
   . have m':t∈ks:=by
      rcases addK_mem.mp m with m|m
      . exact m
      . exact absurd m et
     obtain ⟨s',a,b,c⟩:=h.v t m';refine ⟨s',by unfold Dv.setV;rw [if_neg et];exact a,?_,c.mono (by omega)⟩
     rw [hF,if_neg fun z=>et z.symm,b,Rat.add_zero]
 . have n1:t∉ks:=fun z=>n (addK_mem.mpr (.inl z));have n2:¬tm=t:=fun z=>n (addK_mem.mpr (.inr z.symm));rw [hF,if_neg n2,h.z t n1,Rat.add_zero]
theorem oU {r:R2} {ta tb tc:TE} {Z:Ends} {σ:L2.St} {H:Hp} (h:ta σ H fun x H1=>tb σ H1 fun y H2=>r x y H2 fun v H3=>∃c,v= .bl c/\if c=true then tc σ H3 Z.rt else Z.rt (.bl false) H3):tRet (uX (tOp r ta tb) tc) Z σ H:=h
theorem uQ {bs:List Bnd} {pl:Nat} (h:pl < bs.length):bs[pl]?=some bs[pl]/\bdAt (bs.map ofB) pl=ofB bs[pl]:=⟨yj h,eV (yj h)⟩
section
variable {P:Program} {w:World} {K:PySem.W.Frag} {mg:Str->Option Value} {base:Heap} {T0:Addr}
def pM:Sp:=fun vs H Q _=>∃(lb l:Addr) (xs wv:List V) (bs:List Bnd) (n j m:Nat) (wk:List Wt),vs= [.ref lb, .ref l]/\H lb=some (.lst xs)/\TrsAt H xs (bs.map bdT)/\(∀b∈bs,Ub n j b)/\n<=9/\H l=some (.lst wv)/\TrsAt H wv (wk.map wtT)/\Wts bs wk/\wk.length<=10/\(∀k∈wk,Gf m k.2)/\m<=700/\∀H',Same H H'->Q (.bl true) H'
noncomputable def nWe:List Str:= ["_law_bounds_here","_law_weights_here","_law_common","_law_place","_law_weight","_law_shares","_law_total","_law_strict","_law_k","_law_many","_law_term","_law_share"]
theorem scWe:FnScope nWe ["_law_bounds_here","_law_weights_here"] (af gB):= .of
theorem l8 {f:Addr} {fd:FuncData} (F:Fun K "_law_weights" "_law_weights" gB f fd) (B:Blt mg):FnOk P w K mg base CX0 1 f fd ["_law_bounds_here","_law_weights_here"] pM:=by
 refine F.okb scWe fun vs H Q E h=> ?_;refine hZq fun q_ e_=> ?_;obtain ⟨lb,l,xs,wv,bs,n,j,m,wk,rfl,hl,hT,hU,n9,hw,hW,hWt,w10,hGf,m3,k⟩:=h;subst e_;refine ⟨rfl,fun cdv A outer s hr=> ?_⟩;have hun:=hr.units;have hu30:=yM (zx (show 30<=64 by decide) _) hun
 have hu60:=yM (zx (show 60<=64 by decide) _) hun
 have nd1:(["_law_one"]:List Str).Nodup:=by decide +kernel
 refine ⟨_,ac (psA 2 scWe.nd ad)
  (ac (bZ PassesOwn.never rfl (aZ (pv 1)) (be rfl (aj (pgA 3 scWe.nd) (aj (pgA 4 scWe.nd) aP)))
   (ah (psA 2 scWe.nd (ak aO (pv 2) (am aH (pv 4) ad fun _ _=>rfl)))))
  (ac (psA 5 scWe.nd (Dj.pe_newJ (P:=P) (w:=w) rfl rfl))
  (ac (psA 6 scWe.nd ad)
  (ac (psA 7 scWe.nd ii)
  (ac (bZ PassesOwn.never rfl (bP rfl B.ra (a0 (av ao rfl B.le PySem.boot_len (a0 (pv 1) a9)) a9)) (pgA 8 scWe.nd)
   (ac (e5 (am aq (pv 1) (pv 8) fun _ _=>rfl) (be (n:=2) rfl (aj (pgA 3 scWe.nd) (aj (pgA 4 scWe.nd) aP))))
   (ac (psA 9 scWe.nd (ak cU (ak aO (am aH (pv 4) ad fun _ _=>rfl) (pv 2)) (am aH (pv 4) ad fun _ _=>rfl)))
   (ac (cj (PW.pt (qQ (aG mv (pv 9) ad (aA _)) (kZ (PW.pt (iV (aG eN (pv 8) ad (aA _)) (fY (aG xP (am aH (am aq (pv 1) (ak fg (pv 8) ad) fun _ _=>rfl) ad fun _ _=>rfl) (pv 3) (aA _)))))))) (ah (az ii)) aU)
   (ac (bZ PassesOwn.never rfl (fc (am aH (am aq (pv 0) (pv 3) fun _ _=>rfl) ad fun _ _=>rfl)) (be rfl (aj (pgA 10 scWe.nd) (aj (pgA 11 scWe.nd) aP)))
    (ah (Dj.ps_putJ (P:=P) (w:=w) (K:=K) rfl rfl rfl hu30 (pv 5) (pv 10) (ak aW (Dj.pe_getJ (P:=P) (w:=w) (K:=K) rfl rfl rfl hu30 (pv 5) (pv 10) ad ⟨rfl,rfl,rfl,rfl⟩) (ak aO (am aH (pv 11) ad fun _ _=>rfl) (pv 9))) rfl)))
   (ac (psA 6 scWe.nd (ak aW (pv 6) (ak aO (am aH (am aH (am aq (pv 0) (pv 3) fun _ _=>rfl) ad fun _ _=>rfl) ad fun _ _=>rfl) (pv 9))))
   (ah (psA 7 scWe.nd (vg (pv 7) (ff (am aH (am aq (pv 0) (pv 3) fun _ _=>rfl) ad fun _ _=>rfl)))))))))))
  (ah (az (gJ (c5 (rn hu60) (aV (NC:= ["_law_one"]) (mp:= [none]) rfl (Dj.pi_valuesJ (P:=P) (w:=w) (K:=K) rfl rfl rfl (Dj.pe_valuesJ (P:=P) (w:=w) (K:=K) rfl rfl rfl (pv 5))) (fun _ _ _ _ _=>pgA 0 nd1) (fun _ _ _ _ _=>db (aG jJ (pv 0) ad (aA _))) (fun _ _ _ _ _=>pv 0)) (bu a9) (aA _)) (ff (vg (c5 mv (pv 6) ad (aA _)) (ff (gJ (c5 cD (pv 6) ad (aA _)) (ff (pv 7)))))))))))))),?_⟩
 have hL20:(20000:Nat)<=sizeLine:=by decide +kernel
 have hp:∀k∈wk,0 < k.2.2:=fun k m=>(hGf k m).pos;have wl:=hW.len;rw [yi] at wl;have bl:=hT.len;rw [yi] at bl;refine ag ?_
 try dsimp only
 refine ⟨_,rfl,l,rfl,⟨_,SqL.of hw⟩,?_⟩
 refine dC (xs:=wv) (fun i σ H'=>Same H H'/\∃(v3 v4 v5 v6 v7 v8 v9 v10 v11:Option V),σ= [some (.ref lb),some (.ref l),some (.int (com (wk.take i))),v3,v4,v5,v6,v7,v8,v9,v10,v11])
  ⟨Same.refl _,none,none,none,none,none,none,none,none,none,by rw [zg];rfl⟩ (fun i σ H' _ p=>SqL.of (p.1 _ _ hw)) ?_ ?_
 . intro i x σ H1 ex z_;refine hZq fun q_ e_=> ?_;obtain ⟨sH,v3,v4,v5,v6,v7,v8,v9,v10,v11,rfl⟩:=z_;obtain ⟨u,eu,hu⟩:=hW.get' ex;rw [yo] at eu;obtain ⟨⟨pl,fr⟩,ek,rfl⟩:=yw.mp eu;have mk:=yq ek;obtain ⟨r,x1,y1,rfl,hr1,hx1,hy1⟩:=c6 hu;obtain ⟨rf,rfl,hrf⟩:=eW hy1;subst e_;have gf:=hGf _ mk;have il:i < wk.length:=(yt.mp ek).1;have lt:=lN (a:=wk.take i) (m:=m) fun k mk=>(hGf k (zG mk)).bot;have:(wk.take i).length*m<=10*m:=zh _ (by rw [yS];omega)
   refine ⟨r,_,rfl,SqT.of (sH _ _ hr1),rfl,_,_,rfl,_,_,rfl,rfl,?_⟩;refine ⟨_,rfl,_,rfl,rf,_,1, .int fr.2,rfl,rfl,SqT.of (sH _ _ hrf),rfl,_,_,rfl,rfl,⟨lt.big (by omega),gf.bot.big (by omega)⟩,?_⟩
   refine ag ?_
   have e:com (wk.take (i+1))=com (wk.take i)*fr.2:=by
    rw [ay ek,nR];show _*(fr.2*1)=_;rw [Int.mul_one]
   show Same H H1/\_;rw [e];exact ⟨sH,_,_,_,_,_,_,_,_,_,rfl⟩
 . intro σ H1 z_;refine hZq fun q_ e_=> ?_;obtain ⟨sH,v3,v4,v5,v6,v7,v8,v9,v10,v11,rfl⟩:=z_;subst e_;rw [wl,yO];refine gi ?_
   try dsimp only
   intro D nD;have s1:Same H (upd H1 D (Dj.dJ P w D [])):=sH.trans (aa nD)
   have nD0:H D=none:=by
    cases e:H D with
    |none=>rfl
    |some u=>exact absurd (sH _ _ e) (by rw [nD];simp)
   have d0:Dv.DAv P w K (upd H1 D (Dj.dJ P w D [])) D [] (fun _=> .int 0):=Dv.DAv.nil ⟨a8,fun p m=>by cases m⟩
   generalize upd H1 D (Dj.dJ P w D [])=H2 at s1 d0 ⊢;refine ag ?_
   try dsimp only
   refine ag ?_
   try dsimp only
   refine ag ?_
   try dsimp only
   have lc:=lN (a:=wk) (m:=m) fun k mk=>(hGf k mk).bot;have lm:wk.length*m<=10*m:=zh _ w10;have c0:=jp hp;refine ⟨_,rfl,l,wv,rfl, .inl (SqL.of (s1 _ _ hw)),(wv.length:Int),rfl,by omega,by omega,?_⟩
   rw [show ((wv.length:Int)).toNat=wk.length by omega]
   refine cW (n:=wk.length) (fun i σ H'=>Same H H'/\∃(ks:List Tr) (g:Tr->Tr) (tt:Int) (st:Bool) (v3 v4 v8 v9 v10 v11:Option V),σ= [some (.ref lb),some (.ref l),some (.int (com wk)),v3,v4,some (.ref D),some (.int tt),some (.bl st),v8,v9,v10,v11]/\Dv.DAv P w K H' D ks g/\(∀t∈ks,t∈TL n j)/\Vl ks g (fun t=>Su.tot t (aR (bs.map ofB) (wk.take i))*(com wk:Rat)) (11*m+10+3*i)/\(tt:Rat)=totR (bs.map ofB) (wk.take i)*(com wk:Rat)/\Lt2 (11*m+10+3*i) tt/\(st=true↔∃k∈wk.take i,(bdAt (bs.map ofB) k.1).st=true))
    ⟨s1,[],_,0,false,_,_,_,_,_,_,rfl,d0,(fun t m=>by cases m),⟨fun t m=>(by cases m),fun t _=>by rw [zg];show (0:Rat)*_=0;rw [Rat.zero_mul]⟩,by rw [zg];show _=(0:Rat)*_;rw [Rat.zero_mul];rfl,by show (0:Nat) < _;exact Nat.pow_pos (by decide),by simp⟩ ?_ ?_
   . intro i σ H3 hi z_;refine hZq fun q_ e_=> ?_;obtain ⟨s3,ks,g,tt,st,v3,v4,v8,v9,v10,v11,rfl,hDk,hkT,hV,htt,ltt,hst⟩:=z_;subst e_;rw [zr];refine ag ?_
     try dsimp only
     have ek:wk[i]?=some wk[i]:=yj hi;refine hZq fun q_ e_=> ?_;obtain ⟨x,ex,hx⟩:=hW.get (i:=i) (t:=wtT wk[i]) (by rw [yo,ek];rfl)
     have mk:=yq ek;have hpl:=hWt.lt _ mk;have gf:=hGf _ mk;have hpo:=hWt.pos _ mk;have many:=ut mk hp hpo
     have eprev:0 < i->∃q:Wt,wk[i - 1]?=some q/\q.1 < wk[i].1:=fun h0=>by
      have:=zd.mp hWt.asc (i - 1) i (by omega) hi (by omega)
      exact ⟨wk[i - 1],yj (by omega),this⟩
     have etk:=ay ek;generalize wk[i]=kk at ek hx mk hpl gf hpo many eprev etk;obtain ⟨pl,fr⟩:=kk;dsimp only at hpl gf hpo many eprev;obtain ⟨r,x1,y1,rfl,hr1,hx1,hy1⟩:=c6 hx;obtain ⟨rf,rfl,hrf⟩:=eW hy1;unfold TrAt at hx1;subst hx1;obtain ⟨eb,ebd⟩:=uQ hpl;obtain ⟨xb,exb,hxb⟩:=hT.get (i:=pl) (t:=bdT bs[pl]) (by rw [yo,eb];rfl)
     have ub:=hU _ (yq eb);generalize bs[pl]=b at eb ebd hxb ub;obtain ⟨rb,xw,xm,xst,rfl,hrb,hxw,hxm,hxs⟩:=eh hxb;obtain ⟨au,ys,rfl,hau,hys⟩:=at_t hxw;obtain ⟨rm,rfl,hrm⟩:=eW hxm;subst e_;unfold TrAt at hxs;subst hxs;have yl:=hys.len;rw [yi] at yl;have l2:=ub.l2;have lM:Lt2 (11*m+1) (fr.1*com wk / fr.2):=((gf.top.mul lc).mono (by omega)).div
     refine ⟨_,rfl,_,rfl,l,wv,(i:Int), .ref r,rfl,rfl,SqL.of (s3 _ _ hw),aw ex,?_⟩;refine ⟨r,_,rfl,SqT.of (s3 _ _ hr1),rfl,_,_,rfl,_,_,rfl,rfl,?_⟩
     try dsimp only
     refine ⟨_,rfl,rf,_,0, .int fr.1,rfl,rfl,SqT.of (s3 _ _ hrf),rfl,_,rfl,_,_,rfl,rfl,⟨gf.top.big (by omega),lc.big (by omega)⟩,_,rfl,rf,_,1, .int fr.2,rfl,rfl,SqT.of (s3 _ _ hrf),rfl,_,_,rfl,rfl,⟨gf.pos,gf.bot.big (by omega)⟩,?_⟩
     refine ag ?_
     try dsimp only
     generalize hM:fr.1*com wk / fr.2=M at many lM ⊢;refine bX (fun σ' H'=>σ'= [some (.ref lb),some (.ref l),some (.int (com wk)),some (.int (pl:Int)),some (.ref rf),some (.ref D),some (.int tt),some (.bl st),some (.int (i:Int)),some (.int M),v10,v11]/\H'=H3) ?_ fun nx hnx=> ?_;rotate_left
     . refine ⟨_,rfl,M,1,rfl,rfl,_,rfl,?_⟩;refine ite2 (fun c=>absurd (of_decide_eq_true c) (by omega)) fun _=> ?_
       refine ⟨_,rfl,(i:Int),0,rfl,rfl,_,rfl,?_⟩;refine ite2 (fun c=> ?_) fun _=>iteF (hnx _ _ ⟨rfl,rfl⟩);have i0:=of_decide_eq_true c;refine hZq fun q_ e_=> ?_;obtain ⟨⟨pq,fq⟩,eq,lq⟩:=eprev (by omega)
       obtain ⟨x',ex',hx'⟩:=hW.get (i:=i - 1) (t:=wtT (pq,fq)) (by rw [yo,eq];rfl)
       obtain ⟨r',x1',y1',rfl,hr1',hx1',hy1'⟩:=c6 hx';subst e_;unfold TrAt at hx1';subst hx1';refine ⟨_,rfl,_,rfl,_,1,rfl,rfl,l,wv,(i:Int) - 1, .ref r',rfl,rfl,SqL.of (s3 _ _ hw),by rw [show (i:Int) - 1=((i - 1:Nat):Int) by omega];exact aw ex',r',_,0, .int (pq:Int),rfl,rfl,SqT.of (s3 _ _ hr1'),rfl,_,rfl,_,_,rfl,rfl,_,rfl,?_⟩
       refine ite2 (fun c=>absurd (of_decide_eq_true c) (by dsimp only at lq;omega)) fun _=>hnx _ _ ⟨rfl,rfl⟩
     rintro σ' H' ⟨rfl,rfl⟩;refine ⟨_,rfl,_,rfl,lb,xs,(pl:Int), .ref rb,rfl,rfl,SqL.of (s3 _ _ hl),aw exb,rb,_,0, .ref au,rfl,rfl,SqT.of (s3 _ _ hrb),rfl,au,rfl,⟨_,SqT.of (s3 _ _ hau)⟩,?_⟩
     refine jg (xs:=ys) (fun q σ H'=>Same H H'/\∃(ks:List Tr) (g:Tr->Tr) (v10 v11:Option V),σ= [some (.ref lb),some (.ref l),some (.int (com wk)),some (.int (pl:Int)),some (.ref rf),some (.ref D),some (.int tt),some (.bl st),some (.int (i:Int)),some (.int M),v10,v11]/\Dv.DAv P w K H' D ks g/\(∀t∈ks,t∈TL n j)/\Vl ks g (fun t=>(Su.tot t (aR (bs.map ofB) (wk.take i))+Su.tot t (b.ps.take q)*rv fr)*(com wk:Rat)) (11*m+10+3*i+q))
      ⟨s3,ks,g,v10,v11,rfl,hDk,hkT,by
       refine ⟨fun t mt=> ?_,fun t nt=> ?_⟩
       . obtain ⟨s,a,b',c⟩:=hV.v t mt;refine ⟨s,a,?_,c⟩;rw [b',zg];show _=(_+(0:Rat)*_)*_;rw [Rat.zero_mul,Rat.add_zero]
       . have:=hV.z t nt;rw [zg];show (_+(0:Rat)*_)*_=0;rw [Rat.zero_mul,Rat.add_zero]
         exact this⟩ (fun i σ H' _ p=>SqT.of (p.1 _ _ hau)) ?_ ?_
     . intro q y σ H4 ey z_;refine hZq fun q_ e_=> ?_;obtain ⟨s4,ks,g,v10,v11,rfl,hDk,hkT,hV⟩:=z_;obtain ⟨t',et',ht'⟩:=hys.get' ey;rw [yo] at et';obtain ⟨⟨tm,sf⟩,eq,rfl⟩:=yw.mp et';have mp:=yq eq;have ql:q < b.ps.length:=(yt.mp eq).1;have mTL:=ub.mem _ mp;obtain ⟨ty,dp⟩:=iC n9 mTL;have sh:=ub.sh _ mp;dsimp only at mTL ty dp sh;obtain ⟨T',xx,yy,rfl,hT1,hx1,hy1⟩:=c6 ht';obtain ⟨rs,rfl,hrs⟩:=eW hy1;obtain ⟨bt,rfl⟩:=Dj.tm_ref ty hx1;subst e_;have hx4:=hx1.mono (Kd.of_same s4);refine ⟨T',_,rfl,SqT.of (s4 _ _ hT1),rfl,_,_,rfl,_,_,rfl,rfl,?_⟩;refine hZq fun q_ e_=> ?_;obtain ⟨kvs,dj,pr⟩:=hDk.ex
       have kl:kvs.length<=9:=by
        rw [Paired.length pr];have:=Fm.sub_len hDk.nd hkT;rw [cf] at this;omega
       have ev:=Dv.ev_val pr (fun t m=>(hDk.ty t m).1) ty
       obtain ⟨s,hs1,hs2,hs3⟩:∃s:Int,(Dj.valJ kvs (Dj.ktL tm)).getD (.int 0)= .int s/\(s:Rat)=(Su.tot tm (aR (bs.map ofB) (wk.take i))+Su.tot tm (b.ps.take q)*rv fr)*(com wk:Rat)/\Lt2 (11*m+10+3*i+q) s:=by
        by_cases mt:tm∈ks
        . refine hZq fun q_ e_=> ?_;obtain ⟨v,e1,e2⟩:=ev.1 mt;obtain ⟨s,a,b',c⟩:=hV.v tm mt;subst e_;rw [a] at e2;unfold TrAt at e2;subst e2;exact ⟨s,by rw [e1];rfl,b',c⟩
        . refine ⟨0,by rw [ev.2 mt];rfl,?_,by show (0:Nat) < _;exact Nat.pow_pos (by decide)⟩
          have:=hV.z tm mt;rw [this];rfl
       subst e_;refine ⟨_,rfl,D,kvs,rfl,dj,_,rfl,bt,Dj.ktL tm,rfl,dj,Dj.key_tm ty dp hx4,?_⟩;rw [hs1];have bs1:Lt2 1 sf.1:=by rcases sh with h|h<;>rw [h]<;>exact ltO
       refine ⟨_,rfl,rs,_,0, .int sf.1,rfl,rfl,SqT.of (s4 _ _ hrs),rfl,_,rfl,_,_,rfl,rfl,⟨bs1.big (by omega),lM.big (by omega)⟩,_,_,rfl,rfl,?_⟩
       refine ⟨_,rfl,_,rfl,D,bt,Dj.ktL tm,kvs,rfl,rfl,dj,Dj.key_tm ty dp hx4,by omega,?_⟩
       have hD5:=hDk.put (v:= .int (s+sf.1*M)) (f:= .int (s+sf.1*M)) ty dp hx4 (by unfold TrAt;rfl) dj fun _=>pr
       refine ⟨aF nD0 s4,_,_,_,_,rfl,hD5,fun t mt=> ?_,?_⟩
       . rcases addK_mem.mp mt with mt|rfl
         . exact hkT t mt
         . exact mTL
       . refine hV.put hs2 hs3 ((bs1.mul lM).mono (by omega)) fun t=> ?_
         rw [ay eq,dP,tJ];have es:rv sf=(sf.1:Rat):=f8 sf.1 (by rcases sh with rfl|rfl<;>rfl)
         dsimp only;rw [es,Rat.intCast_mul,many.1];by_cases z:tm=t
         . rw [if_pos z,if_pos z];grind
         . rw [if_neg z,if_neg z];grind
     . intro σ H4 z_;refine hZq fun q_ e_=> ?_;obtain ⟨s4,ks,g,v10,v11,rfl,hDk,hkT,hV⟩:=z_;subst e_;rw [yl,yO] at hV;have lim2:=ub.m2;have lim1:=ub.m1
       have bl1:Lt2 4 b.lim.1:=by
        show b.lim.1.natAbs < 2^4;omega
       have prod:Lt2 (11*m+10+3*i) (b.lim.1*M):=(bl1.mul lM).mono (by omega)
       refine ⟨_,rfl,_,rfl,_,rfl,lb,xs,(pl:Int), .ref rb,rfl,rfl,SqL.of (s4 _ _ hl),aw exb,rb,_,1, .ref rm,rfl,rfl,SqT.of (s4 _ _ hrb),rfl,rm,_,0, .int b.lim.1,rfl,rfl,SqT.of (s4 _ _ hrm),rfl,_,rfl,_,_,rfl,rfl,⟨bl1.big (by omega),lM.big (by omega)⟩,_,_,rfl,rfl,?_⟩
       refine ag ?_
       try dsimp only
       have fin:∀st':Bool,(st'=true↔∃k∈wk.take (i+1),(bdAt (bs.map ofB) k.1).st=true)->Same H H4/\∃(ks:List Tr) (g:Tr->Tr) (tt':Int) (st:Bool) (v3 v4 v8 v9 v10' v11':Option V),([some (.ref lb),some (.ref l),some (.int (com wk)),some (.int (pl:Int)),some (.ref rf),some (.ref D),some (.int (tt+b.lim.1*M)),some (.bl st'),some (.int (i:Int)),some (.int M),v10,v11]:L2.St)= [some (.ref lb),some (.ref l),some (.int (com wk)),v3,v4,some (.ref D),some (.int tt'),some (.bl st),v8,v9,v10',v11']/\Dv.DAv P w K H4 D ks g/\(∀t∈ks,t∈TL n j)/\Vl ks g (fun t=>Su.tot t (aR (bs.map ofB) (wk.take (i+1)))*(com wk:Rat)) (11*m+10+3*(i+1))/\(tt':Rat)=totR (bs.map ofB) (wk.take (i+1))*(com wk:Rat)/\Lt2 (11*m+10+3*(i+1)) tt'/\(st=true↔∃k∈wk.take (i+1),(bdAt (bs.map ofB) k.1).st=true):=by
        intro st' hst';refine ⟨s4,ks,g,_,st',_,_,_,_,_,_,rfl,hDk,hkT,?_,?_,?_,hst'⟩
        . have ef:(fun t=>Su.tot t (aR (bs.map ofB) (wk.take (i+1)))*(com wk:Rat))=fun t=>(Su.tot t (aR (bs.map ofB) (wk.take i))+Su.tot t b.ps*rv fr)*(com wk:Rat):=by
           funext t;rw [etk,oF,dP,oE];dsimp only;rw [ebd];show (_+Su.tot t (b.ps.map (scale fr)))*_=_;rw [i7 t (hWt.sh _ mk) fun p mp=>(pm1 (ub.sh p mp)).1]
          rw [ef];exact hV.mono (by omega)
        . rw [etk,oZ,oY];dsimp only;rw [ebd];show _=(_+rv b.lim*rv fr)*_;have el:rv b.lim=(b.lim.1:Rat):=f8 b.lim.1 (by rw [<-lim2])
          rw [Rat.intCast_add,Rat.intCast_mul,htt,many.1,el];grind
        . exact (ltt.add prod).mono (by omega)
       have stn:(st ||b.st)=true↔∃k∈wk.take (i+1),(bdAt (bs.map ofB) k.1).st=true:=by
        rw [etk,Bool.or_eq_true,hst];simp only [yN,yD];constructor
        . rintro (⟨k,mk',h⟩|h)
          . exact ⟨k, .inl mk',h⟩
          . exact ⟨_, .inr rfl,by rw [ebd];exact h⟩
        . rintro ⟨k,mk'|rfl,h⟩
          . exact .inl ⟨k,mk',h⟩
          . rw [ebd] at h;exact .inr h
       refine ⟨_,rfl,st,rfl,?_⟩
       cases st with
       |true=>
        refine iteT ?_;refine ag ?_;exact fin true stn
       |false=>
        refine iteF ?_;refine ⟨_,rfl,_,rfl,lb,xs,(pl:Int), .ref rb,rfl,rfl,SqL.of (s4 _ _ hl),aw exb,rb,_,2, .bl b.st,rfl,rfl,SqT.of (s4 _ _ hrb),rfl,?_⟩;refine ag ?_;exact fin b.st stn
   . intro σ H3 z_;refine hZq fun q_ e_=> ?_;obtain ⟨s3,ks,g,tt,st,v3,v4,v8,v9,v10,v11,rfl,hDk,hkT,hV,htt,ltt,hst⟩:=z_;rw [yO] at hV htt hst;obtain ⟨kvs,dj,kl0,hvs⟩:=hDk.vals;subst e_
     have zs:∀x∈(kvs.map fun e=>e.2.2),x= .int 0:=by
      intro x mx;refine hZq fun q_ e_=> ?_;obtain ⟨i,hi,ei⟩:=zf mx;obtain ⟨u,eu,hu⟩:=hvs.get' (by rw [yj hi,ei])
      rw [yo] at eu;obtain ⟨t,et,rfl⟩:=yw.mp eu;obtain ⟨s,a,b,_⟩:=hV.v t (yq et);subst e_;rw [hWt.tot,Rat.zero_mul] at b;have s0:s=0:=by exact_mod_cast b
      rw [a,s0] at hu;unfold TrAt at hu;exact hu
     have htot:(tt < 0)\/(tt=0/\st=true):=by
      have cc:=cE c0;rcases hWt.low with h|⟨h,hk⟩
      . left;refine Int.not_le.mp fun z=> ?_;have z':(0:Rat)<=(tt:Rat):=by exact_mod_cast z
        have:=Rat.mul_lt_mul_of_pos_right h cc;rw [Rat.zero_mul,<-htt] at this;exact absurd this (Rat.not_lt.mpr z')
      . right;rw [h,Rat.zero_mul] at htt;exact ⟨by exact_mod_cast htt,hst.mpr hk⟩
     dsimp only;refine oU ?_;refine cR (rest:= []) rfl ?_;refine ⟨_,rfl,D,kvs,rfl,rfl,dj,fun vw nv=> ?_⟩;have sv:=aa (o:=cX vw D) nv;refine ⟨vw,D,kvs,rfl,a8,dj.kd (Kd.of_same sv) (sv _ _ dj.at_),fun o L nL=> ?_⟩;have sF:Same H (upd (upd H3 vw (cX vw D)) D (.frz o (Dj.dJ P w D kvs))):=aF nD0 (s3.trans sv);have hF:(upd (upd H3 vw (cX vw D)) D (.frz o (Dj.dJ P w D kvs))) D=some (.frz o (Dj.dJ P w D kvs)):=a8;generalize upd (upd H3 vw (cX vw D)) D (.frz o (Dj.dJ P w D kvs))=H4 at nL sF hF ⊢;have sL:=aa (o:= .lst []) nL;refine Dj.comp_valuesT (fun i acc H'=>acc= []/\H' L=some (.lst [])/\H' D=some (.frz o (Dj.dJ P w D kvs))/\Same H H') ⟨rfl,a8,sL _ _ hF,sF.trans sL⟩ (fun i acc H' p=>p.2.2.1) ?_ ?_
     . intro i x acc H' hi ex p;rw [zs x (yq ex)];refine ⟨_,rfl,rfl,_,rfl,?_⟩;exact ite2 (fun c=>absurd c (by decide)) fun _=>CompS.mk hi p
     . rintro acc H' ⟨rfl,hL,_,sH'⟩;refine ⟨by show 0<=sizeLine;decide,fun E nE=> ?_⟩
       have sE:=aa (o:= .lst []) nE;refine ⟨L,E,[],[],[],[],rfl,rfl,sE _ _ hL,a8, .nil, .nil, .inl (iH (n:=0) fun t m=>(by cases m)).1,by decide,?_⟩
       refine ⟨_,rfl,?_⟩;refine ite2 (fun _=> ?_) fun c=>absurd rfl c;refine ⟨_,rfl,tt,0,rfl,rfl,_,rfl,?_⟩;refine ite2 (fun _=>k _ (sH'.trans sE)) fun c=> ?_;have e:=htot.resolve_left fun z=>c (decide_eq_true z);refine ⟨_,rfl,rfl,_,rfl,?_⟩;rw [e.1];refine ite2 (fun _=> ?_) fun c=>absurd rfl c;refine ⟨_,rfl,?_⟩;rw [e.2];exact k _ (sH'.trans sE)
def Met (g:Tr->Rat) (bs:List Bnd):Prop:=∀b∈bs,lin g b.ps < rv b.lim\/(lin g b.ps=rv b.lim/\b.st=false)
theorem fark {bs:List Bnd} {g:Tr->Rat} (hsh:∀b∈bs,∀p∈b.ps,Sh p.2) (hm:Met g bs):
 ∀ {wk:List Wt},(∀k∈wk,k.1 < bs.length)->(∀k∈wk,Sh k.2/\0 < k.2.1)->lin g (aR (bs.map ofB) wk)<=totR (bs.map ofB) wk/\((∃k∈wk,(bdAt (bs.map ofB) k.1).st=true)->lin g (aR (bs.map ofB) wk) < totR (bs.map ofB) wk)
 | [],_,_=>⟨by simp only [aR,lin,totR];exact Rat.le_refl,fun ⟨k,m,_⟩=>by cases m⟩
 |k::r,h1,h2=>by
  obtain ⟨i1,i2⟩:=fark hsh hm (wk:=r) (fun x m=>h1 x (ym _ m)) fun x m=>h2 x (ym _ m);obtain ⟨eb,ebd⟩:=uQ (h1 k yn);have mb:=yq eb;have hmb:=hm _ mb;have hsb:=hsh _ mb;generalize bs[k.1]'(h1 k yn)=b at ebd hmb hsb;obtain ⟨shk,pk⟩:=h2 k yn;have pos:0 < rv k.2:=(md shk.1).mpr pk;simp only [aR,totR];rw [ja,ebd];show lin g (b.ps.map (scale k.2))+_<=rv b.lim*rv k.2+_/\(_->lin g (b.ps.map (scale k.2))+_ < rv b.lim*rv k.2+_);rw [oy g shk hsb]
  have le:lin g b.ps*rv k.2<=rv b.lim*rv k.2:=by
   refine Rat.mul_le_mul_of_nonneg_right ?_ (Rat.le_of_lt pos);rcases hmb with h|⟨h,_⟩
   . exact Rat.le_of_lt h
   . rw [h];exact Rat.le_refl
  refine ⟨by grind,fun ⟨x,mx,hx⟩=> ?_⟩
  rcases yx.mp mx with rfl|mx
  . have lt:lin g b.ps*rv x.2 < rv b.lim*rv x.2:=by
     rcases hmb with h|⟨_,h⟩
     . exact Rat.mul_lt_mul_of_pos_right h pos
     . rw [ebd] at hx;rw [show b.st=true from hx] at h;cases h
    grind
  . have:=i2 ⟨x,mx,hx⟩;grind
theorem never {bs:List Bnd} {g:Tr->Rat} {wk:List Wt} (hsh:∀b∈bs,∀p∈b.ps,Sh p.2) (hm:Met g bs) (h:Wts bs wk):False:=by
 obtain ⟨a1,a2⟩:=fark hsh hm h.lt fun k m=>⟨h.sh k m,h.pos k m⟩;have e0:lin g (aR (bs.map ofB) wk)=lin g []:=rN g fun t=>h.tot t;simp only [lin] at e0;rw [e0] at a1 a2;rcases h.low with z|⟨z,x⟩
 . exact absurd a1 (Rat.not_le.mpr z)
 . have:=a2 x;rw [z] at this;exact absurd this Rat.lt_irrefl
def NumK (P:Program) (w:World) (K:PySem.W.Frag) (H:Hp) (r:Addr) (bs:List Bnd) (m:Nat):Prop:=∃(d:Addr) (us:List Tr) (G:Tr->Fr),H r=some (.tup [.str (Str.ofString "numbers"), .ref d])/\Dj.DAt P w K H d us G/\(∀t∈us,Sh (G t)/\Gf m (G t))/\TmIn us bs/\Met (gw us G) bs
def WtsK (H:Hp) (r:Addr) (bs:List Bnd) (m:Nat):Prop:=∃(l:Addr) (wv:List V) (wk:List Wt),H r=some (.tup [.str (Str.ofString "weights"), .ref l])/\H l=some (.lst wv)/\TrsAt H wv (wk.map wtT)/\Wts bs wk/\wk.length<=10/\∀k∈wk,Gf m k.2
def kP (P:Program) (w:World) (K:PySem.W.Frag):Sp:=fun vs H Q _=>∃(lb r:Addr) (xs:List V) (bs:List Bnd) (n j m:Nat),vs= [.ref lb, .ref r]/\H lb=some (.lst xs)/\TrsAt H xs (bs.map bdT)/\(∀b∈bs,Ub n j b)/\n<=9/\m<=700/\(NumK P w K H r bs m\/WtsK H r bs m)/\∀H',Same H H'->Q (.bl true) H'
theorem scGo:FnScope ["_law_bounds_here","_law_found"] ["_law_bounds_here","_law_found"] (af qz):= .of
theorem xU:¬(V.str (Str.ofString "weights")=V.str (Str.ofString "numbers")):=fun z=>absurd (V.str.inj z) (by decide +kernel)
theorem um {f fN fW:Addr} {fd dN dW:FuncData} (F:Fun K "_law_good" "_law_good" qz f fd) (B:Blt mg)
 (gN:FnOk P w K mg base CX0 2 fN dN ["_law_bounds_here","_law_numbers_here"] (kM P w K)) (kN:PySem.W.keepIn K (.ref fN)=true) (bN:Binds K dN ["_law_bounds_here","_law_numbers_here"] []) (mN:mg "_law_numbers"=some (.ref fN))
 (gW:FnOk P w K mg base CX0 1 fW dW ["_law_bounds_here","_law_weights_here"] pM) (kW:PySem.W.keepIn K (.ref fW)=true) (bW:Binds K dW ["_law_bounds_here","_law_weights_here"] []) (mW:mg "_law_weights"=some (.ref fW)):FnOk P w K mg base CX0 3 f fd ["_law_bounds_here","_law_found"] (kP P w K):=by
 refine F.okb scGo fun vs H Q E h=> ?_;refine hZq fun q_ e_=> ?_;obtain ⟨lb,r,xs,bs,n,j,m,rfl,hl,hT,hU,n9,m3,hG,k⟩:=h;subst e_;refine ⟨rfl,fun cdv A outer s hr=> ?_⟩;have hr1:Room 1 _:=hr.mono (by omega)
 have hr2:Room 2 _:=hr.mono (by omega)
 refine ⟨_,ac (cj (aG cD (am aH (pv 1) ad fun _ _=>rfl) bK (aA _)) (ah (az (ai gN hr2 rfl mN kN bN .nil ax (a0 (pv 0) (a0 (am aH (pv 1) ad fun _ _=>rfl) a9))))) aU)
  (ah (az (gJ (c5 cD (am aH (pv 1) ad fun _ _=>rfl) bK (aA _)) (gJ (c5 eN (av ao rfl B.le PySem.boot_len (a0 (am aH (pv 1) ad fun _ _=>rfl) a9)) ad (aA _)) (ff (ai gW hr1 rfl mW kW bW .nil ax (a0 (pv 0) (a0 (am aH (pv 1) ad fun _ _=>rfl) a9)))))))),?_⟩
 rcases hG with ⟨d,us,G,hr',hD,hg,hTm,hMet⟩|⟨l,wv,wk,hr',hw,hW,hWt,w10,hGf⟩
 . refine ⟨_,rfl,r,_,0,_,rfl,rfl,SqT.of hr',rfl,rfl,_,rfl,?_⟩;rw [decide_eq_true rfl];refine iteT ?_;exact ⟨_,rfl,_,rfl,r,_,1,_,rfl,rfl,SqT.of hr',rfl,lb,d,xs,bs,n,j,m,us,G,rfl,hl,hT,hU,n9,hD,hg,by omega,hTm,hMet,fun H' s'=>k H' s'⟩
 . refine ⟨_,rfl,r,_,0,_,rfl,rfl,SqT.of hr',rfl,rfl,_,rfl,?_⟩;rw [decide_eq_false xU];refine iteF (gi ?_);refine ⟨_,rfl,r,_,0,_,rfl,rfl,SqT.of hr',rfl,rfl,_,rfl,?_⟩;rw [decide_eq_true rfl];refine iteT ?_;have wl:=hW.len;rw [yi] at wl;have w0:0 < wk.length:=List.length_pos_iff.mpr hWt.ne;refine ⟨_,rfl,r,_,1,_,rfl,rfl,SqT.of hr',rfl,l,wv,rfl, .inl (SqL.of hw),(wv.length:Int),0,rfl,rfl,_,rfl,?_⟩;rw [decide_eq_true (by omega)]
   refine iteT ?_;exact ⟨_,rfl,_,rfl,r,_,1,_,rfl,rfl,SqT.of hr',rfl,lb,l,xs,wv,bs,n,j,m,wk,rfl,hl,hT,hU,n9,hw,hW,hWt,w10,hGf,m3,fun H' s'=>k H' s'⟩
theorem mP {T0:Addr} {ps:Array Value} {H H':Hp} (hT:H T0=some (.tbl ps)) (b:ButT T0 H H'):Kd H H':=
 ⟨fun a xs e=>b _ _ (fun z=>by rw [z,hT] at e;cases e) e,fun a xs e=>⟨xs,b _ _ (fun z=>by rw [z,hT] at e;cases e) e⟩⟩
noncomputable def CC:Nat:=2^300
theorem sW:∀ {x:Nat},x<=CC*(CC+1)+CC->x < 2^602:=fun {x} h=>yM h (by decide +kernel)
theorem ye {m:Nat} (h:m<=34):Wg.fac m*(9*1)^m<=CC:=by
 have:∀m:Fin 35,Wg.fac m.val*(9*1)^m.val<=CC:=by decide +kernel
 exact this ⟨m,by omega⟩
theorem Ub.gbd {n j:Nat} {b:Bnd} (h9:n<=9) (h:Ub n j b):Gbd (TL n j) 5 b:=by
 have m1:=h.m1;refine ⟨h.asc,fun p mp=> ?_,⟨by rw [h.m2];decide,yM m1 (show 9 < 2^5 by decide),by rw [h.m2];show (1:Nat) < 2^5;decide⟩,⟨by rw [h.m2];decide,by rw [h.m2];exact Int.gcd_one_right _⟩⟩
 have mt:=h.mem p mp;obtain ⟨ty,dp⟩:=iC h9 mt;obtain ⟨sh,gf⟩:=pm1 (h.sh p mp);obtain ⟨k,hk,e⟩:=tw mt;exact ⟨⟨by rw [e];exact p5 (by omega),by omega,by rw [e];exact tL,mt⟩,⟨ty,dp,gf,sh⟩⟩
theorem Ub.bz {n j:Nat} {bs:List Bnd} (h:∀b∈bs,Ub n j b) (h34:bs.length<=34):Bz bs 9 1 1 2 CC:=by
 refine ⟨fun b mb=>⟨(h b mb).l2,fun p mp=> ?_,(h b mb).m1,by rw [(h b mb).m2];decide⟩,fun b mb=> ?_,by decide,by decide,?_,ye h34,by decide +kernel,by decide +kernel,Nat.pow_lt_pow_right (by decide) (by decide)⟩
 . rcases (h b mb).sh p mp with z|z<;>rw [z]<;>exact ⟨by decide,by decide⟩
 . obtain ⟨_,_,_,a4⟩:=g6 (M:=1) (fs:=b.ps.map (·.2)++ [b.lim]) (s:=1) (by decide) fun f mf=>by
    rcases yN.mp mf with m|m
    . obtain ⟨p,mp,rfl⟩:=yR.mp m;rcases (h b mb).sh p mp with z|z<;>rw [z]<;>exact ⟨by decide,by decide⟩
    . rw [yD.mp m,(h b mb).m2];exact ⟨by decide,by decide⟩
   rw [Nat.one_pow] at a4;exact a4
 . rw [Nat.one_pow];exact Nat.one_lt_two_pow (by decide)
theorem uE {t b:Int} {m:Nat} (b0:0 < b) (h1:t.natAbs < 2^m) (h2:b.natAbs < 2^m):Sh ((fx t b,fy t b):Fr)/\Gf m ((fx t b,fy t b):Fr):=by
 have s:=dh (t:=t) (b:=b) (by omega)
 refine ⟨s,s.1,?_,?_⟩
 . show (fx t b).natAbs < 2^m
   have d0:0 < dv t b:=by
    have:=yU t (show b≠0 by omega)
    unfold dv;rw [if_neg (by omega)]
    omega
   unfold fx;rw [z4 _ (by omega)]
   exact yM (cA _ _) h1
 . show (fy t b).natAbs < 2^m
   have d0:0 < dv t b:=by
    have:=yU t (show b≠0 by omega)
    unfold dv;rw [if_neg (by omega)]
    omega
   unfold fy;rw [z4 _ (by omega)]
   exact yM (cA _ _) h2
theorem vA {n j:Nat} {us:List Tr} {bs:List Bnd} (h:∀b∈bs,Ub n j b) (t:TmIn us bs):us.length<=n:=by
 have:=Fm.sub_len t.1 (U:=TL n j) fun u mu=>by
  obtain ⟨b,mb,p,mp,rfl⟩:=(t.2 u).mp mu;exact (h b mb).mem p mp
 rw [cf] at this;exact this
theorem NOut.good {P:Program} {w:World} {K:PySem.W.Frag} {T0 d r:Addr} {H H':Hp} {bs:List Bnd} {us:List Tr} {Tb:Wg.Tb} {M:Int} {G:Tr->Fr} {n j:Nat} (h9:n<=9) (hU:∀b∈bs,Ub n j b) (h34:bs.length<=34) (h:NOut P w K T0 H H' bs CC d us Tb M G) (hr:H' r=some (.tup [.str (Str.ofString "numbers"), .ref d])):NumK P w K H' r bs 602:=by
 have hg:∀b∈bs,Gbd (TL n j) 5 b:=fun b mb=>(hU b mb).gbd h9;refine ⟨d,us,G,hr,h.da,fun t mt=> ?_,h.tm,h.met hg⟩;have hW:=(Ub.bz hU h34).wb (T:=TL n j) (e:=5) hg us;obtain ⟨bb,bl⟩:=hW.bnd h.ok.inv h.ok.pm;obtain ⟨j,hj,e⟩:=zf mt;have eu:us[j]?=some t:=by rw [yj hj,e]
 rw [h.g j t eu];have m1:=h.m1;have mc:=h.mc;have Ma:M.natAbs<=CC+1:=by omega
 have b0:=h.ok.inv.pos;have l1:=lx (k:=bs.length+j) (c:=us.length) h.ok.pm bb bl (by omega)
 have l2:=lx (k:=bs.length+j) (c:=us.length+1) h.ok.pm bb bl (by omega)
 refine uE (zP b0 (by omega)) (sW ?_) (sW ?_)
 . rw [<-rL];refine yC (Int.natAbs_add_le _ _) ?_;rw [yT];exact Nat.add_le_add (zM l1 Ma) l2
 . rw [yT];exact yC (zM bb Ma) (zN _ _)
theorem WOut.good {T0 l r:Addr} {H H':Hp} {bs:List Bnd} {ws2:List V} {us2 us:List Tr} {Tb:Wg.Tb} {i n j:Nat} (h9:n<=9) (hU:∀b∈bs,Ub n j b) (h34:bs.length<=34) (h:WOut T0 H H' bs l ws2 us2 us Tb i) (hr:H' r=some (.tup [.str (Str.ofString "weights"), .ref l])):WtsK H' r bs 602:=by
 have hg:∀b∈bs,Gbd (TL n j) 5 b:=fun b mb=>(hU b mb).gbd h9;obtain ⟨wk,rfl,hWt,wl,hb⟩:=h.wts hg ((Ub.bz hU h34).wb (T:=TL n j) (e:=5) hg us);obtain ⟨w1,w2,_,_⟩:=h.wt;have ul:=vA hU h.tm;have cc:∀ {x:Nat},x<=CC*CC->x < 2^602:=fun {x} q=>sW (yC q (yC (Nat.mul_le_mul_left _ (Nat.le_succ _)) (zN _ _)));exact ⟨l,ws2,wk,hr,w1,w2,hWt,by omega,fun k mk=>⟨(hWt.sh k mk).1,cc (hb k mk).1,cc (hb k mk).2⟩⟩
theorem tZ {bs bsR:List Bnd} {m j:Nat} {g:Tr->Rat} (h2:2<=m) (hl:bsR.length=m) (hR:∀k b,bsR[k]?=some b->Rb j m k b) (sub:∀b∈bsR,b∈bs) (hM:Met g bs):False:=by
 have st:∀k,k < m->g (tmk j k) < g (tmk j ((k+1)%m))\/(g (tmk j k)=g (tmk j ((k+1)%m))/\k≠0):=by
  intro k hk;have eb:bsR[k]?=some (bsR[k]'(by omega)):=yj (by omega)
  have rb:=hR k _ eb;have mb:=hM _ (sub _ (yq eb));generalize bsR[k]'(by omega)=b at rb mb
  have e1:lin g b.ps=lin g (rp j m k):=rN g fun t=>oV rb.pm
  have e2:lin g (rp j m k)=g (tmk j k) - g (tmk j ((k+1)%m)):=by
   simp only [rp,lin];rw [f8 1 rfl,f8 (-1) rfl];show (1:Rat)*_+((-1:Rat)*_+0)=_;grind
  have e3:rv b.lim=0:=by
   rw [rb.lim,f8 0 rfl];rfl
  rw [e1,e2,e3,rb.st] at mb;rcases mb with z|⟨z,y⟩
  . left;grind
  . right;refine ⟨by grind,fun q=> ?_⟩
    rw [q] at y;cases y
 have s0:g (tmk j 0) < g (tmk j 1):=by
  rcases st 0 (by omega) with z|⟨_,z⟩
  . rw [Nat.mod_eq_of_lt (by omega)] at z
    exact z
  . exact absurd rfl z
 have up:∀k,k+1 < m->g (tmk j 1)<=g (tmk j (k+1)):=by
  intro k
  induction k with
  |zero=>exact fun _=>Rat.le_refl
  |succ k ih=>
   intro hk;have i:=ih (by omega)
   have s:=st (k+1) (by omega)
   rw [Nat.mod_eq_of_lt hk] at s;rcases s with z|⟨z,_⟩
   . exact Rat.le_trans i (Rat.le_of_lt z)
   . rw [<-z];exact i
 have u:=up (m - 2) (by omega)
 have l:=st (m - 1) (by omega)
 rw [show m - 1+1=m by omega,Nat.mod_self] at l
 rw [show m - 2+1=m - 1 by omega] at u
 have le:g (tmk j (m - 1))<=g (tmk j 0):=by
  rcases l with z|⟨z,_⟩
  . exact Rat.le_of_lt z
  . rw [z];exact Rat.le_refl
 exact absurd s0 (Rat.not_lt.mpr (Rat.le_trans u le))
theorem sO {vs:List V} {n:Nat}:cutV vs none (some (n:Int))=vs.take n:=by
 unfold cutV;rw [HT.sIx_nat,HT.sIx_none];simp [List.take_eq_take_iff]
theorem sP {vs:List V} {n:Nat}:cutV vs (some (n:Int)) none=vs.drop n:=by
 unfold cutV;rw [HT.sIx_nat,HT.sIx_none];by_cases h:n<=vs.length
 . rw [Nat.min_eq_left h];exact List.take_of_length_le (by rw [List.length_drop];omega)
 . rw [List.drop_eq_nil_of_le (by omega),List.drop_eq_nil_of_le (by omega)]
   simp
theorem TrsAt.take {H:Hp}:∀ {vs:List V} {ts:List Tr} (n:Nat),TrsAt H vs ts->TrsAt H (vs.take n) (ts.take n)
 |vs,ts,0,_=>by rw [zg,zg];exact .nil
 |vs,[],n+1,h=>by
  unfold TrsAt at h;subst h;exact .nil
 |vs,t::ts,n+1,h=>by
  obtain ⟨v,r,rfl,h1,h2⟩:=h.inv;exact .cons h1 (TrsAt.take n h2)
theorem TrsAt.drop {H:Hp}:∀ {vs:List V} {ts:List Tr} (n:Nat),TrsAt H vs ts->TrsAt H (vs.drop n) (ts.drop n)
 |vs,ts,0,h=>h
 |vs,[],n+1,h=>by
  unfold TrsAt at h;subst h;exact .nil
 |vs,t::ts,n+1,h=>by
  obtain ⟨v,r,rfl,h1,h2⟩:=h.inv;exact TrsAt.drop n h2
def lY (K:PySem.W.Frag) (T0:Addr):Sp:=fun vs H Q _=>∃(a:Addr) (ns:List Int),vs= [.ref a]/\SqL K H a (ns.map V.int)/\ns.length<=63/\Lm T0 H/\∀H',Q (.bl true) H'
theorem scL:FnScope ["_law_script","_law_terms_here","_law_bounds_here","_law_ring_here","_law_at","_law_found","_law_doubled","_law_again"] ["_law_script"] (af sLaw):= .of
theorem wy {f fTs fBo fRi fWg fD fGo:Addr} {fd dTs dBo dRi dWg dD dGo:FuncData} (F:Fun K "law" "law" sLaw f fd) (B:Blt mg)
 (gTs:FnOk P w K mg base CX0 2 fTs dTs ["_law_script"] (iO K)) (kTs:PySem.W.keepIn K (.ref fTs)=true) (bTs:Binds K dTs ["_law_script"] []) (mTs:mg "_law_terms"=some (.ref fTs))
 (gBo:FnOk P w K mg base CX0 2 fBo dBo ["_law_script","_law_terms_here"] (gy K)) (kBo:PySem.W.keepIn K (.ref fBo)=true) (bBo:Binds K dBo ["_law_script","_law_terms_here"] []) (mBo:mg "_law_bounds"=some (.ref fBo))
 (gRi:FnOk P w K mg base CX0 2 fRi dRi ["_law_script","_law_terms_here"] (kJ K)) (kRi:PySem.W.keepIn K (.ref fRi)=true) (bRi:Binds K dRi ["_law_script","_law_terms_here"] []) (mRi:mg "_law_ring"=some (.ref fRi))
 (gWg:FnOk P w K mg base CX0 44 fWg dWg ["bounds"] (pL P w K T0)) (kWg:PySem.W.keepIn K (.ref fWg)=true) (bWg:Binds K dWg ["bounds"] []) (mWg:mg "weighed"=some (.ref fWg))
 (gD:FnOk P w K mg base CX0 1 fD dD ["_law_script","_law_k","_law_many"] (f6 K)) (kD:PySem.W.keepIn K (.ref fD)=true) (bD:Binds K dD ["_law_script","_law_k","_law_many"] []) (mD:mg "_law_draw"=some (.ref fD))
 (gGo:FnOk P w K mg base CX0 3 fGo dGo ["_law_bounds_here","_law_found"] (kP P w K)) (kGo:PySem.W.keepIn K (.ref fGo)=true) (bGo:Binds K dGo ["_law_bounds_here","_law_found"] []) (mGo:mg "_law_good"=some (.ref fGo)):
 FnOk P w K mg base CX0 45 f fd ["_law_script"] (lY K T0):=by
 refine F.okb scL fun vs H Q E h=> ?_;refine hZq fun q_ e_=> ?_;obtain ⟨a,ns,rfl,hS,h63,hLm,k⟩:=h;subst e_;refine ⟨rfl,fun cdv A outer s hr=> ?_⟩;have hr1:Room 1 _:=hr.mono (by omega)
 have hr2:Room 2 _:=hr.mono (by omega)
 have hr3:Room 3 _:=hr.mono (by omega)
 refine ⟨_,ac (psA 1 scL.nd (ai gTs hr2 rfl mTs kTs bTs .nil ax (a0 (pv 0) a9)))
  (ac (psA 2 scL.nd (ai gBo hr2 rfl mBo kBo bBo .nil ax (a0 (pv 0) (a0 (pv 1) a9))))
  (ac (psA 3 scL.nd (c5 cD (ai gD hr1 rfl mD kD bD .nil ax (a0 (pv 0) (a0 ad (a0 ad a9)))) ad (aA _)))
  (ac (cj (dZ (pv 3) fun _=>rfl)
   (ac (psA 4 scL.nd (ai gD hr1 rfl mD kD bD .nil ax (a0 (pv 0) (a0 ad (a0 (ak aW (av ao rfl B.le PySem.boot_len (a0 (pv 2) a9)) ad) a9)))))
   (ah (psA 2 scL.nd (ak cJ (ak cJ (gH iR (pv 2) iX (iW (pv 4))) (ai gRi hr2 rfl mRi kRi bRi .nil ax (a0 (pv 0) (a0 (pv 1) a9)))) (gH iR (pv 2) (iW (pv 4)) iX))))) aU)
  (ac (psA 5 scL.nd (ai gWg hr rfl mWg kWg bWg .nil ax (a0 (bQ eU rfl B.li PyProof.Rows.boot_list (a0 (pv 2) a9)) a9)))
  (ac (cj (PW.pt (qQ (vQ (dZ (ai gGo hr3 rfl mGo kGo bGo .nil ax (a0 (pv 2) (a0 (pv 5) a9))) fun _=>rfl)) (kZ (PW.pt (iV (dZ (pv 3) fun _=>rfl) (fY (aG jJ (am aH (pv 5) ad fun _ _=>rfl) bK (aA _)))))))) (ah (az ii)) aU)
  (ac (psA 6 scL.nd (ak cJ (pv 2) (bu (a0 (am aq (pv 2) (ai gD hr1 rfl mD kD bD .nil ax (a0 (pv 0) (a0 ad (a0 (av ao rfl B.le PySem.boot_len (a0 (pv 2) a9)) a9)))) fun _ _=>rfl) a9))))
  (ac (psA 7 scL.nd (ai gWg hr rfl mWg kWg bWg .nil ax (a0 (pv 6) a9)))
  (ah (az (gJ (c5 cD (am aH (pv 7) ad fun _ _=>rfl) (am aH (pv 5) ad fun _ _=>rfl) (aA _)) (ff (ai gGo hr3 rfl mGo kGo bGo .nil ax (a0 (pv 6) (a0 (pv 7) a9)))))))))))))),?_⟩
 have hL20:(20000:Nat)<=sizeLine:=by decide +kernel
 refine ⟨_,rfl,a,ns,rfl,hS,h63,fun lt wt n j H1 s1 nlt hlt hT n6 n9 _=> ?_⟩;refine ag ?_
 try dsimp only
 refine ⟨_,rfl,_,rfl,a,ns,lt,wt,n,j,rfl,SqL.same s1 hS,h63,hlt,hT,n6,n9,fun lb bvs bs H2 s2 nlb hlb hB hU b10 b24=> ?_⟩;refine ag ?_
 try dsimp only
 have hS2:=SqL.same (s1.trans s2) hS;have hlt2:=s2 _ _ hlt;have hT2:=hT.mono (Kd.of_same s2);have hLm2:=hLm.same (s1.trans s2);refine ⟨_,rfl,a,ns,5,3,rfl,hS2,h63,by decide,by decide,by decide,fun r0 _ _ _=> ?_⟩
 refine ⟨rfl,?_⟩;refine ag ?_
 try dsimp only
 generalize decide (V.int r0=V.int 1)=ring;refine bX (fun σ' H3=>Same H2 H3/\∃(lb:Addr) (bvs:List V) (bs:List Bnd) (v4:Option V),σ'= [some (.ref a),some (.ref lt),some (.ref lb),some (.bl ring),v4,none,none,none]/\H3 lb=some (.lst bvs)/\TrsAt H3 bvs (bs.map bdT)/\(∀b∈bs,Ub n j b)/\10<=bs.length/\bs.length<=33/\(ring=true->∀g,¬Met g bs)) ?_ fun nx hnx=> ?_;rotate_left
 . refine ⟨_,rfl,ring,rfl,?_⟩
   cases ring with
   |false=>exact iteF (hnx _ _ ⟨Same.refl _,lb,bvs,bs,none,rfl,hlb,hB,hU,b10,by omega,fun z=>by cases z⟩)
   |true=>
    refine iteT ?_;have bl:=hB.len;rw [yi] at bl;refine ⟨_,rfl,_,rfl,lb,bvs,rfl, .inl (SqL.of hlb),_,1,rfl,rfl,a,ns,6,(bvs.length:Int)+1,rfl,hS2,h63,by decide,by decide,by omega,fun r1 r10 r11 _=> ?_⟩
    obtain ⟨at',rfl⟩:∃x:Nat,r1=(x:Int):=⟨r1.toNat,by omega⟩
    refine ag ?_
    try dsimp only
    refine ⟨_,rfl,_,rfl,(at':Int),rfl,lb,bvs,rfl,SqL.of hlb,fun p1 np1=> ?_⟩;rw [sO];have t1:=aa (o:= .lst (bvs.take at')) np1;have hp1:=a8 (H:=H2) (a:=p1) (o:= .lst (bvs.take at'));generalize upd H2 p1 (.lst (bvs.take at'))=H3 at t1 hp1 ⊢;refine ⟨_,rfl,_,rfl,a,ns,lt,wt,n,j,rfl,SqL.same t1 hS2,h63,t1 _ _ hlt2,hT2.mono (Kd.of_same t1),n6,n9,fun lr rvs br m H4 s4 nlr hlr hBr hUr m2 mn bl' hR=> ?_⟩;have rl:=hBr.len;rw [yi] at rl;have tl:(bvs.take at').length<=bvs.length:=by rw [yS];omega
    refine ⟨p1,lr,bvs.take at',rvs,rfl,rfl,s4 _ _ hp1,hlr,by omega,fun p2 np2=> ?_⟩
    have t2:=aa (o:= .lst (bvs.take at'++rvs)) np2;have hp2:=a8 (H:=H4) (a:=p2) (o:= .lst (bvs.take at'++rvs));generalize upd H4 p2 (.lst (bvs.take at'++rvs))=H5 at t2 hp2 ⊢;have s25:=(t1.trans s4).trans t2;refine ⟨_,rfl,_,rfl,(at':Int),rfl,lb,bvs,rfl,SqL.of (s25 _ _ hlb),fun p3 np3=> ?_⟩;rw [sP];have t3:=aa (o:= .lst (bvs.drop at')) np3;have hp3:=a8 (H:=H5) (a:=p3) (o:= .lst (bvs.drop at'));generalize upd H5 p3 (.lst (bvs.drop at'))=H6 at t3 hp3 ⊢;have dl:(bvs.drop at').length<=bvs.length:=by rw [List.length_drop];omega
    refine ⟨p2,p3,_,_,rfl,rfl,t3 _ _ hp2,hp3,by rw [yI];omega,fun p4 np4=> ?_⟩
    have t4:=aa (o:= .lst (bvs.take at'++rvs++bvs.drop at')) np4;refine ag ?_;have s26:=(s25.trans t3).trans t4;have s46:=(t2.trans t3).trans t4;refine hnx _ _ ⟨s26,p4,_,bs.take at'++br++bs.drop at',_,rfl,a8,?_,fun b mb=> ?_,?_,?_,fun _ g hM=> ?_⟩
    . rw [yK,yK,List.map_take,List.map_drop];exact TrsAt.app (TrsAt.drop _ (hB.mono (Kd.of_same s26))) (TrsAt.app (hBr.mono (Kd.of_same s46)) (TrsAt.take _ (hB.mono (Kd.of_same s26))))
    . rcases yN.mp mb with mb|mb
      . rcases yN.mp mb with mb|mb
        . exact hU b (zG mb)
        . exact hUr b mb
      . exact hU b (List.mem_of_mem_drop mb)
    . rw [yI,yI,yS,List.length_drop];omega
    . rw [yI,yI,yS,List.length_drop];omega
    . exact tZ m2 bl' hR (fun b mb=>zq _ (yB _ mb)) hM
 clear hB hlb hU b10 b24 nlb;clear lb bvs bs;intro σ' H3 z_;refine hZq fun q_ e_=> ?_;obtain ⟨s3,lb,bvs,bs,v4,rfl,hlb,hB,hU,b10,b33,hRing⟩:=z_;subst e_;have bl:=hB.len;rw [yi] at bl;have hS3:=SqL.same s3 hS2;have hLm3:=hLm2.same s3;have hsh:∀b∈bs,∀p∈b.ps,Sh p.2:=fun b mb p mp=>(pm1 ((hU b mb).sh p mp)).1;refine bX (fun σ' H4=>∃r,σ'= [some (.ref a),some (.ref lt),some (.ref lb),some (.bl ring),v4,some (.ref r),none,none]/\ButT T0 H3 H4/\Lm T0 H4/\(NumK P w K H4 r bs 602\/WtsK H4 r bs 602)) ?_ fun nx hnx=> ?_;rotate_left
 . refine ⟨_,rfl,lb,_,rfl, .inl (SqL.of hlb),fun l3 nl3=> ?_⟩;have t3:=aa (o:= .lst bvs) nl3;refine ⟨l3,bvs,bs,TL n j,5,9,1,1,2,CC,rfl,a8,hB.mono (Kd.of_same t3),fun b mb=>(hU b mb).gbd n9,by decide,by rw [cf];omega,by omega,by decide,Ub.bz hU (by omega),hLm3.same t3,fun r l H' ws2 us2 us Tb i hr h=> ?_,fun r d H' us Tb M G hr h=> ?_⟩
   . exact hnx _ _ ⟨r,rfl,fun x o n e=>h.bt _ _ n (t3 _ _ e),h.lm, .inr (h.good n9 hU (by omega) hr)⟩
   . exact hnx _ _ ⟨r,rfl,fun x o n e=>h.bt _ _ n (t3 _ _ e),h.lm, .inl (h.good n9 hU (by omega) hr)⟩
 intro σ' H4 z_;refine hZq fun q_ e_=> ?_;obtain ⟨r,rfl,bt,hLm4,hK⟩:=z_;obtain ⟨ps0,hT0⟩:=hLm3.tbl;subst e_;have hlb4:H4 lb=some (.lst bvs):=bt _ _ (fun z=>by rw [<-z,hlb] at hT0;cases hT0) hlb
 have hS4:SqL K H4 a (ns.map V.int):=SqL.butT hT0 bt hS3;have hB4:=hB.mono (mP hT0 bt);refine bX (fun σ' H5=>Same H4 H5/\σ'= [some (.ref a),some (.ref lt),some (.ref lb),some (.bl ring),v4,some (.ref r),none,none]) ?_ fun nx hnx=> ?_;rotate_left
 . refine ⟨_,rfl,_,rfl,lb,r,bvs,bs,n,j,602,rfl,hlb4,hB4,hU,n9,by decide,hK,fun H5 s5=> ?_⟩
   refine ⟨true,rfl,?_⟩;refine iteF ?_;refine ⟨_,rfl,ring,rfl,?_⟩
   cases ring with
   |false=>exact iteF (iteF (hnx _ _ ⟨s5,rfl⟩))
   |true=>
    refine iteT ?_;rcases hK with ⟨d,us,G,hr',_,_,_,hM⟩|⟨l,wv,wk,hr',_⟩
    . exact absurd hM (hRing rfl _)
    . refine ⟨_,rfl,r,_,0,_,rfl,rfl,SqT.of (s5 _ _ hr'),rfl,rfl,_,rfl,?_⟩;exact ite2 (fun c=>absurd c (by simp)) fun _=>hnx _ _ ⟨s5,rfl⟩
 rintro σ' H5 ⟨s5,rfl⟩;have hlb5:=s5 _ _ hlb4;refine ⟨_,rfl,_,rfl,_,rfl,_,rfl,lb,bvs,rfl, .inl (SqL.of hlb5),a,ns,7,(bvs.length:Int),rfl,SqL.same s5 hS4,h63,by decide,by decide,by omega,fun r7 r70 r7l _=> ?_⟩
 obtain ⟨x7,rfl⟩:∃x:Nat,r7=(x:Int):=⟨r7.toNat,by omega⟩
 have ex7:bs[x7]?=some (bs[x7]'(by omega)):=yj (by omega)
 have m7:=yq ex7;generalize bs[x7]'(by omega)=b7 at ex7 m7
 have hB5:=hB4.mono (Kd.of_same s5);obtain ⟨y7,ey7,hy7⟩:=hB5.get (i:=x7) (t:=bdT b7) (by rw [yo,ex7];rfl)
 refine ⟨lb,bvs,(x7:Int),y7,rfl,rfl,SqL.of hlb5,aw ey7,by show 1<=sizeLine;omega,fun p6 np6=> ?_⟩
 have t6:=aa (o:= .lst [y7]) np6;have hp6:=a8 (H:=H5) (a:=p6) (o:= .lst [y7]);change (upd H5 p6 (.lst [y7])) p6=_ at hp6;generalize upd H5 p6 (.lst [y7])=H6 at t6 hp6 ⊢;refine ⟨lb,p6,bvs,[y7],rfl,rfl,t6 _ _ hlb5,hp6,by show bvs.length+1<=sizeLine;omega,fun p7 np7=> ?_⟩
 have t7:=aa (o:= .lst (bvs++ [y7])) np7;have hp7:=a8 (H:=H6) (a:=p7) (o:= .lst (bvs++ [y7]));generalize upd H6 p7 (.lst (bvs++ [y7]))=H7 at t7 hp7 ⊢;refine ag ?_
 try dsimp only
 have s47:=(s5.trans t6).trans t7
 have hD:TrsAt H7 (bvs++ [y7]) ((bs++ [b7]).map bdT):=by
  rw [yK];exact TrsAt.app (.cons (hy7.mono (Kd.of_same (t6.trans t7))) .nil) (hB5.mono (Kd.of_same (t6.trans t7)))
 have hUD:∀b∈bs++ [b7],Ub n j b:=fun b mb=>by
  rcases yN.mp mb with mb|mb
  . exact hU b mb
  . rw [yD.mp mb];exact hU _ m7
 have hshD:∀b∈bs++ [b7],∀p∈b.ps,Sh p.2:=fun b mb p mp=>(pm1 ((hUD b mb).sh p mp)).1
 have lD:(bs++ [b7]).length<=34:=by
  rw [yI];show bs.length+1<=34;omega
 have toD:∀g,Met g bs->Met g (bs++ [b7]):=fun g h b mb=>by
  rcases yN.mp mb with mb|mb
  . exact h b mb
  . rw [yD.mp mb];exact h _ m7
 have frD:∀g,Met g (bs++ [b7])->Met g bs:=fun g h b mb=>h b (zq _ mb);have hLm7:=hLm4.same s47;refine bX (fun σ' H8=>∃r',σ'= [some (.ref a),some (.ref lt),some (.ref lb),some (.bl ring),v4,some (.ref r),some (.ref p7),some (.ref r')]/\ButT T0 H7 H8/\Lm T0 H8/\(NumK P w K H8 r' (bs++ [b7]) 602\/WtsK H8 r' (bs++ [b7]) 602)) ?_ fun nx hnx=> ?_;rotate_left
 . refine ⟨_,rfl,p7,_,bs++ [b7],TL n j,5,9,1,1,2,CC,rfl,hp7,hD,fun b mb=>(hUD b mb).gbd n9,by decide,by rw [cf];omega,by omega,by decide,Ub.bz hUD lD,hLm7,fun r l H' ws2 us2 us Tb i hr h=> ?_,fun r d H' us Tb M G hr h=> ?_⟩
   . exact hnx _ _ ⟨r,rfl,h.bt,h.lm, .inr (h.good n9 hUD lD hr)⟩
   . exact hnx _ _ ⟨r,rfl,h.bt,h.lm, .inl (h.good n9 hUD lD hr)⟩
 intro σ' H8 z_;refine hZq fun q_ e_=> ?_;obtain ⟨r',rfl,bt8,hLm8,hK8⟩:=z_;obtain ⟨ps7,hT7⟩:=hLm7.tbl;subst e_;have kd8:=mP hT7 bt8;have hp8:H8 p7=some (.lst (bvs++ [y7])):=bt8 _ _ (fun z=>by rw [<-z,hp7] at hT7;cases hT7) hp7
 have hD8:=hD.mono kd8;have hr8:∀ {o:HO},H4 r=some o->(∀p,o≠ .tbl p)->H8 r=some o:=fun {o} e q=>bt8 _ _ (fun z=>by rw [<-z,s47 _ _ e] at hT7;exact q _ (yF hT7)) (s47 _ _ e)
 rcases hK with ⟨d,us,G,hr4,_,_,_,hM⟩|⟨l,wv,wk,hr4,_,_,hWt,_⟩
 . rcases id hK8 with ⟨d',us',G',hr',_⟩|⟨l',wv',wk',hr',_,_,hWt',_⟩
   . refine ⟨_,rfl,r',_,0,_,rfl,rfl,SqT.of hr',rfl,_,rfl,r,_,0,_,rfl,rfl,SqT.of (hr8 hr4 fun p z=>by cases z),rfl,rfl,_,rfl,?_⟩
     rw [decide_eq_true rfl];refine iteT ?_;exact ⟨_,rfl,_,rfl,p7,r',_,bs++ [b7],n,j,602,rfl,hp8,hD8,hUD,n9,by decide,hK8,fun H' _=>k H'⟩
   . exact (never hshD (toD _ hM) hWt').elim
 . rcases id hK8 with ⟨d',us',G',hr',_,_,_,hM'⟩|⟨l',wv',wk',hr',_⟩
   . exact (never hsh (frD _ hM') hWt).elim
   . refine ⟨_,rfl,r',_,0,_,rfl,rfl,SqT.of hr',rfl,_,rfl,r,_,0,_,rfl,rfl,SqT.of (hr8 hr4 fun p z=>by cases z),rfl,rfl,_,rfl,?_⟩
     rw [decide_eq_true rfl];refine iteT ?_;exact ⟨_,rfl,_,rfl,p7,r',_,bs++ [b7],n,j,602,rfl,hp8,hD8,hUD,n9,by decide,hK8,fun H' _=>k H'⟩
end
end K45
namespace K45
open PySem L2 Mth Wd
theorem ex0 {n:Nat} (us:List Value) (hl:us.length=n+1):∃a vs,us=a::vs/\vs.length=n:=by
 cases us with
 |nil=>cases hl
 |cons a vs=>exact ⟨a,vs,rfl,Nat.succ.inj hl⟩
theorem ex1 (us:List Value) (hl:us.length=1):∃a,us= [a]:=by
 obtain ⟨a,vs,rfl,h⟩:=ex0 us hl;exact ⟨a,by rw [List.eq_nil_of_length_eq_zero h]⟩
theorem ex2 (us:List Value) (hl:us.length=2):∃a b,us= [a,b]:=by
 obtain ⟨a,vs,rfl,h⟩:=ex0 us hl;obtain ⟨b,rfl⟩:=ex1 vs h;exact ⟨a,b,rfl⟩
theorem ex3 (us:List Value) (hl:us.length=3):∃a b c,us= [a,b,c]:=by
 obtain ⟨a,vs,rfl,h⟩:=ex0 us hl;obtain ⟨b,c,rfl⟩:=ex2 vs h;exact ⟨a,b,c,rfl⟩
theorem ex4 (us:List Value) (hl:us.length=4):∃a b c d,us= [a,b,c,d]:=by
 obtain ⟨a,vs,rfl,h⟩:=ex0 us hl;obtain ⟨b,c,d,rfl⟩:=ex3 vs h;exact ⟨a,b,c,d,rfl⟩
theorem all_mk {l:PySem.W.OpenLaw} {w:World} {K:PySem.W.Frag} {h:Heap} {mg:Str->Option Value} {fa:Addr} (X:K.In h) (G:h.Ns mainGlobals mg) (hfa:mg "law"=some (.ref fa))
 {T0 c0:Addr}
 {fLB:Addr} {odLB anLB:Option Addr} {slLB:Array (Option Value)} {ocLB kVLB dcLB pmLB ctLB:Value}
 {fCD fFR fBR fST fTO fSE fTM fSH fSC fWH fCT fIS fSL fTU fTD fRE fWA fHC fWB fLI fSP fTL fNU fWG fDR fOV fTS fBO fRI fNS fWS fGO fLA:Addr} {dCD dFR dBR dST dTO dSE dTM dSH dSC dWH dCT dIS dSL dTU dTD dRE dWA dHC dWB dLI dSP dTL dNU dWG dDR dOV dTS dBO dRI dNS dWS dGO dLA:FuncData}
 {C fI:Addr} {odI anI:Option Addr} {slI:Array (Option Value)} {ocI kVI dcI pmI cdI ctI:Value}
 (hCD:FH K "common_divisor" sCd fCD dCD)
 (hFR:FH K "fraction" sFr fFR dFR)
 (hBR:FH K "bracketed" sBr fBR dBR)
 (hST:FH K "shown_term" sSt fST dST)
 (hTO:FH K "table_of" sTof fTO dTO)
 (hSE:FH K "settle" sSet fSE dSE)
 (hTM:FH K "terms_of" sTmo fTM dTM)
 (hSH:FH K "shares_in" sShi fSH dSH)
 (hSC:FH K "scale_of" sSco fSC dSC)
 (hWH:FH K "whole_of" sWho fWH dWH)
 (hCT:FH K "counts_of" sCto fCT dCT)
 (hIS:FH K "is_slack" sIsl fIS dIS)
 (hSL:FH K "slack_lines" sSll fSL dSL)
 (hTU:FH K "turn" sTur fTU dTU)
 (hTD:FH K "turned" sTud fTD dTD)
 (aLB:PySem.W.nsIn K mainGlobals "least_by"=some (some (.ref fLB)))
 (lLB:K.lookup fLB=some ⟨ocLB,odLB, .func (PySem.W.fnOf "least_by" "least_by" (b9 sLby) (aQ sLby) (af sLby) .none kVLB dcLB pmLB anLB (.ref c0) ctLB),slLB⟩)
 (cLB:PySem.W.codeIn K (.ref c0) "least_by"=true)
 (kLB:PySem.W.keepIn K (.ref fLB)=true)
 (hRE:FH K "refuted" sRef fRE dRE)
 (hWA:FH K "weights_against" sWag fWA dWA)
 (hHC:FH K "head_counts" sHco fHC dHC)
 (hWB:FH K "weights_by" sWby fWB dWB)
 (hLI:FH K "line_of" sLio fLI dLI)
 (hSP:FH K "strict_point" sStr fSP dSP)
 (hTL:FH K "term_lines" sTli fTL dTL)
 (hNU:FH K "numbers_at" sNua fNU dNU)
 (hWG:FH K "weighed" sWgd fWG dWG)
 (hDR:FH K "_law_draw" qA fDR dDR)
 (hOV:FH K "_law_over" qw fOV dOV)
 (hTS:FH K "_law_terms" kU fTS dTS)
 (hBO:FH K "_law_bounds" iS fBO dBO)
 (hRI:FH K "_law_ring" qu fRI dRI)
 (hNS:FH K "_law_numbers" gC fNS dNS)
 (hWS:FH K "_law_weights" gB fWS dWS)
 (hGO:FH K "_law_good" qz fGO dGO)
 (hLA:FH K "law" sLaw fLA dLA)
 (aTB:PySem.W.nsIn K mainGlobals "Table"=some (some (.ref C)))
 (iI:PySem.W.findIn K (.ref C) "__init__"=some (some (.ref fI)))
 (fnI:PySem.W.isFn K (.ref fI)=true)
 (lI:K.lookup fI=some ⟨ocI,odI, .func (PySem.W.fnOf "__init__" "Table.__init__" (b9 ie) (aQ ie) (af ie) .none kVI dcI pmI anI cdI ctI),slI⟩)
 (cI:PySem.W.codeIn K cdI "Table.__init__"=true)
 (kI:PySem.W.keepIn K (.ref fI)=true)
 (kC:PySem.W.keepIn K (.ref C)=true)
 (qM:PySem.W.makesIn K C=true)
 (qG:PySem.W.plainGet K C Str.empty=true)
 (qD:PySem.W.hasDictIn K C=true)
 (qO:PySem.W.plainOver K C=true)
 (qS:PySem.W.findIn K (.ref C) "__setattr__"=some (some (.builtin "object.__setattr__")))
 (q_terms:PySem.W.findIn K (.ref C) "terms"=some none)
 (q_scales:PySem.W.findIn K (.ref C) "scales"=some none)
 (q_lines:PySem.W.findIn K (.ref C) "lines"=some none)
 (q_bottom:PySem.W.findIn K (.ref C) "bottom"=some none)
 (q_sides:PySem.W.findIn K (.ref C) "sides"=some none)
 (q_heads:PySem.W.findIn K (.ref C) "heads"=some none)
 (z_abs:PySem.W.nsIn K mainGlobals "abs"=some none)
 (z_len:PySem.W.nsIn K mainGlobals "len"=some none)
 (z_range:PySem.W.nsIn K mainGlobals "range"=some none)
 (z_isinstance:PySem.W.nsIn K mainGlobals "isinstance"=some none)
 (z_tuple:PySem.W.nsIn K mainGlobals "tuple"=some none)
 (z_int:PySem.W.nsIn K mainGlobals "int"=some none)
 (z_bool:PySem.W.nsIn K mainGlobals "bool"=some none)
 (z_list:PySem.W.nsIn K mainGlobals "list"=some none)
 (z_str:PySem.W.nsIn K mainGlobals "str"=some none)
 (z_all:PySem.W.nsIn K mainGlobals "all"=some none)
 (z_any:PySem.W.nsIn K mainGlobals "any"=some none)
 (z_sum:PySem.W.nsIn K mainGlobals "sum"=some none)
 (z_zip:PySem.W.nsIn K mainGlobals "zip"=some none)
 (z_sorted:PySem.W.nsIn K mainGlobals "sorted"=some none)
 (z_ValueError:PySem.W.nsIn K mainGlobals "ValueError"=some none)
 (z_repr:PySem.W.nsIn K mainGlobals "repr"=some none)
 (z_enumerate:PySem.W.nsIn K mainGlobals "enumerate"=some none)
 (z_max:PySem.W.nsIn K mainGlobals "max"=some none)
 (z_min:PySem.W.nsIn K mainGlobals "min"=some none)
 (xT:PySem.W.codeHdIn K c0 T0=true)
 (xN:K.lookup T0=none):
 ∃c0:Addr,K.lookup T0=none/\PySem.W.codeHdIn K c0 T0=true/\∃fd:FuncData,(∀(s:Shared) (v:Value),BindsTo s fd ⟨[v],[]⟩ [("_law_script",v)])/\∀base:Heap,K.In base->base.Ns mainGlobals mg->base.BuiltinsAt mg T0->FnOk l.prog w K mg base CX0 45 fa fd ["_law_script"] (lY K T0):=by
 have e:=hfa.symm.trans (PySem.W.mg_of X G hLA.ns);cases e;refine hZq fun q_ e_=> ?_;obtain ⟨_,_,kVLA,dcLA,pmLA,anLA,cdLA,ctLA,_,rfl,lLA,cLA⟩:=hLA.ex;subst e_;have B:Blt mg:=⟨PySem.W.mg_none_of X G z_abs,PySem.W.mg_none_of X G z_len,PySem.W.mg_none_of X G z_range,PySem.W.mg_none_of X G z_isinstance,PySem.W.mg_none_of X G z_tuple,PySem.W.mg_none_of X G z_int,PySem.W.mg_none_of X G z_bool,PySem.W.mg_none_of X G z_list,PySem.W.mg_none_of X G z_str,PySem.W.mg_none_of X G z_all,PySem.W.mg_none_of X G z_any,PySem.W.mg_none_of X G z_sum,PySem.W.mg_none_of X G z_zip,PySem.W.mg_none_of X G z_sorted,PySem.W.mg_none_of X G z_ValueError,PySem.W.mg_none_of X G z_repr,PySem.W.mg_none_of X G z_enumerate,PySem.W.mg_none_of X G z_max,PySem.W.mg_none_of X G z_min⟩;have FI:=wV (st:=ie) lI cI kI;have bI:=FI.binds (ps:= ["self","terms","scales","lines"]) fun _ _ _ _ _ _ us hl=>by obtain ⟨_,_,_,_,rfl⟩:=ex4 us hl;rfl
 have mTB:=PySem.W.mg_of X G aTB;have hC:Tk K C:=⟨⟨qG,qD,qO,qS⟩,q_terms,q_scales,q_lines,q_bottom,q_sides,q_heads⟩;have hM:Mk K C fI:=⟨qM,iI,fnI,kC⟩;have XLB:FunC K "least_by" "least_by" sLby fLB _ c0:=⟨⟨_,_,_,_,_,_,_,_,rfl,lLB,cLB⟩⟩;have bCD:Binds K _ ["one","other"] []:=hCD.b2;have mCD:=PySem.W.mg_of X G hCD.ns;have bFR:Binds K _ ["top","bottom"] []:=hFR.b2;have mFR:=PySem.W.mg_of X G hFR.ns;have bBR:Binds K _ ["words"] []:=hBR.b1;have mBR:=PySem.W.mg_of X G hBR.ns;have bST:Binds K _ ["term"] []:=hST.b1;have mST:=PySem.W.mg_of X G hST.ns;have bTO:Binds K _ ["bounds","sums"] []:=hTO.b2;have mTO:=PySem.W.mg_of X G hTO.ns;have bSE:Binds K _ ["table"] []:=hSE.b1;have mSE:=PySem.W.mg_of X G hSE.ns;have bTM:Binds K _ ["sums"] []:=hTM.b1;have mTM:=PySem.W.mg_of X G hTM.ns;have bSH:Binds K _ ["pairs"] []:=hSH.b1;have mSH:=PySem.W.mg_of X G hSH.ns;have bSC:Binds K _ ["shares"] []:=hSC.b1;have mSC:=PySem.W.mg_of X G hSC.ns;have bWH:Binds K _ ["share","scale"] []:=hWH.b2;have mWH:=PySem.W.mg_of X G hWH.ns;have bCT:Binds K _ ["pairs","terms","scale"] []:=hCT.b3;have mCT:=PySem.W.mg_of X G hCT.ns;have bIS:Binds K _ ["table","number"] []:=hIS.b2;have mIS:=PySem.W.mg_of X G hIS.ns;have bSL:Binds K _ ["table"] []:=hSL.b1;have mSL:=PySem.W.mg_of X G hSL.ns;have bTU:Binds K _ ["table","at","column"] []:=hTU.b3;have mTU:=PySem.W.mg_of X G hTU.ns;have bTD:Binds K _ ["table","other","line","column","bottom"] []:=hTD.b5;have mTD:=PySem.W.mg_of X G hTD.ns;have hLB:FH K _ sLby _ _:= .mk' aLB lLB cLB kLB;have bLB:Binds K _ ["numbers","places"] []:=hLB.b2;have mLB:=PySem.W.mg_of X G hLB.ns;have bRE:Binds K _ ["table"] []:=hRE.b1;have mRE:=PySem.W.mg_of X G hRE.ns;have bWA:Binds K _ ["table","at"] []:=hWA.b2;have mWA:=PySem.W.mg_of X G hWA.ns;have bHC:Binds K _ ["table","line"] []:=hHC.b2;have mHC:=PySem.W.mg_of X G hHC.ns;have bWB:Binds K _ ["table","counts","bottom"] []:=hWB.b3;have mWB:=PySem.W.mg_of X G hWB.ns;have bLI:Binds K _ ["table","number"] []:=hLI.b2;have mLI:=PySem.W.mg_of X G hLI.ns;have bSP:Binds K _ ["table"] []:=hSP.b1;have mSP:=PySem.W.mg_of X G hSP.ns;have bTL:Binds K _ ["table"] []:=hTL.b1;have mTL:=PySem.W.mg_of X G hTL.ns;have bNU:Binds K _ ["table","point"] []:=hNU.b2;have mNU:=PySem.W.mg_of X G hNU.ns;have bWG:Binds K _ ["bounds"] []:=hWG.b1;have mWG:=PySem.W.mg_of X G hWG.ns;have bDR:Binds K _ ["_law_script","_law_k","_law_many"] []:=hDR.b3;have mDR:=PySem.W.mg_of X G hDR.ns;have bOV:Binds K _ ["_law_one","_law_other"] []:=hOV.b2;have mOV:=PySem.W.mg_of X G hOV.ns;have bTS:Binds K _ ["_law_script"] []:=hTS.b1;have mTS:=PySem.W.mg_of X G hTS.ns;have bBO:Binds K _ ["_law_script","_law_terms_here"] []:=hBO.b2;have mBO:=PySem.W.mg_of X G hBO.ns;have bRI:Binds K _ ["_law_script","_law_terms_here"] []:=hRI.b2;have mRI:=PySem.W.mg_of X G hRI.ns;have bNS:Binds K _ ["_law_bounds_here","_law_numbers_here"] []:=hNS.b2;have mNS:=PySem.W.mg_of X G hNS.ns;have bWS:Binds K _ ["_law_bounds_here","_law_weights_here"] []:=hWS.b2;have mWS:=PySem.W.mg_of X G hWS.ns;have bGO:Binds K _ ["_law_bounds_here","_law_found"] []:=hGO.b2
 have mGO:=PySem.W.mg_of X G hGO.ns;refine ⟨c0,xN,xT,PySem.W.fnOf "law" "law" (b9 sLaw) (aQ sLaw) (af sLaw) .none kVLA dcLA pmLA anLA cdLA ctLA,fun s v=> .of_eq rfl,fun base _ _ hB=> ?_⟩;have gFR:FnOk l.prog w K mg base CX0 2 fFR _ _ lZ:=wB hFR.fn hCD.fn bCD mCD B;have gST:FnOk l.prog w K mg base CX0 41 fST _ _ (spSt 40):=xQ hST.fn bST mST hBR.fn bBR mBR 40;have gSH:FnOk l.prog w K mg base CX0 1 fSH _ _ pV:=wn hSH.fn;have gSC:FnOk l.prog w K mg base CX0 2 fSC _ _ pX:=wp hSC.fn hCD.fn bCD mCD B;have gWH:FnOk l.prog w K mg base CX0 1 fWH _ _ lW:=vY hWH.fn;have gTM:FnOk l.prog w K mg base CX0 42 fTM _ _ pR:=we hTM.fn B gST hST.kp bST mST;have gCT:FnOk l.prog w K mg base CX0 42 fCT _ _ qm:=wC hCT.fn gST hST.kp bST mST gWH hWH.kp bWH mWH;have gIS:FnOk l.prog w K mg base CX0 1 fIS _ _ (qh (K:=K)):=wz hIS.fn B;have gSL:FnOk l.prog w K mg base CX0 2 fSL _ _ (jC (K:=K)):=wm hSL.fn B gIS hIS.kp bIS mIS;have gTD:FnOk l.prog w K mg base CX0 1 fTD _ _ (pP (K:=K)):=wa hTD.fn B;have gTU:FnOk l.prog w K mg base CX0 2 fTU _ _ (lX (K:=K)):=w9 hTU.fn B gTD hTD.kp bTD mTD;have gLB:FnOk l.prog w K mg base CX0 2 fLB _ _ (qg (K:=K) T0):=wx XLB B xT hB;have gI:FnOk l.prog w K mg base CX0 1 fI _ ["self","terms","scales","lines"] (kG (K:=K) C):=ui FI B;have gSE:FnOk l.prog w K mg base CX0 3 fSE _ _ (pW (K:=K)):=wo hSE.fn B gSL hSL.kp bSL mSL gTU hTU.kp bTU mTU;have gHC:FnOk l.prog w K mg base CX0 1 fHC _ _ (qk (K:=K)):=wA hHC.fn B;have gWB:FnOk l.prog w K mg base CX0 3 fWB _ _ (pN (K:=K)):=w6 hWB.fn B gFR hFR.kp bFR mFR;have gWA:FnOk l.prog w K mg base CX0 4 fWA _ _ (pO (K:=K)):=w8 hWA.fn B gHC hHC.kp bHC mHC hCD.fn bCD mCD gWB hWB.kp bWB mWB;have gRE:FnOk l.prog w K mg base CX0 5 fRE _ _ (pY (K:=K) T0):=wq hRE.fn B gSL hSL.kp bSL mSL gLB hLB.kp bLB mLB gWA hWA.kp bWA mWA gTU hTU.kp bTU mTU;have gLI:FnOk l.prog w K mg base CX0 1 fLI _ _ (qe (K:=K)):=ww hLI.fn B;have gTL:FnOk l.prog w K mg base CX0 2 fTL _ _ (pS (K:=K)):=wg hTL.fn B gLI hLI.kp bLI mLI;have gSP:FnOk l.prog w K mg base CX0 3 fSP _ _ (pU (K:=K)):=wj hSP.fn B gSL hSL.kp bSL mSL gTL hTL.kp bTL mTL;have gNU:FnOk l.prog w K mg base CX0 3 fNU _ _ (pZ (P:=l.prog) (w:=w) (K:=K)):=wu hNU.fn B gFR hFR.kp bFR mFR;have gTO:FnOk l.prog w K mg base CX0 43 fTO _ _ (pQ C):=wd hTO.fn B hC gTM hTM.kp bTM mTM gSC hSC.kp bSC mSC gSH hSH.kp bSH mSH gCT hCT.kp bCT mCT gWH hWH.kp bWH mWH hM gI bI mTB gSE hSE.kp bSE mSE;have gWG:FnOk l.prog w K mg base CX0 44 fWG _ _ (pL l.prog w K T0):=vZ hWG.fn hC gTO hTO.kp bTO mTO gRE hRE.kp bRE mRE gNU hNU.kp bNU mNU gSP hSP.kp bSP mSP;have gDR:FnOk l.prog w K mg base CX0 1 fDR _ _ (f6 K):=uo hDR.fn B;have gOV:FnOk l.prog w K mg base CX0 1 fOV _ _ (kK K):=uk hOV.fn;have gTS:FnOk l.prog w K mg base CX0 2 fTS _ _ (iO K):=rq hTS.fn B gDR hDR.kp bDR mDR;have gBO:FnOk l.prog w K mg base CX0 2 fBO _ _ (gy K):=on hBO.fn B gDR hDR.kp bDR mDR;have gRI:FnOk l.prog w K mg base CX0 2 fRI _ _ (kJ K):=uj hRI.fn B gDR hDR.kp bDR mDR;have gNS:FnOk l.prog w K mg base CX0 2 fNS _ _ (kM l.prog w K):=la hNS.fn B gOV hOV.kp bOV mOV
 have gWS:FnOk l.prog w K mg base CX0 1 fWS _ _ pM:=l8 hWS.fn B;have gGO:FnOk l.prog w K mg base CX0 3 fGO _ _ (kP l.prog w K):=um hGO.fn B gNS hNS.kp bNS mNS gWS hWS.kp bWS mWS;exact wy hLA.fn B gTS hTS.kp bTS mTS gBO hBO.kp bBO mBO gRI hRI.kp bRI mRI gWG hWG.kp bWG mWG gDR hDR.kp bDR mDR gGO hGO.kp bGO mGO
theorem walk {l:PySem.W.OpenLaw} {q:Program} {loose:List Str} {XP:(Str->Option Value)->Heap->Prop} {YP:World->Heap->Prop} {d:DefRec} {K:Params->PySem.W.Frag} {T0:Addr} (hn:l.most=some 63) (hdf:d.params.defaults= [])
 (hY:∀(w:World) (h:Heap),YP w h->(K w.params).In h) (hYT:∀(w:World) (h:Heap),YP w h->h.get? T0=some (PySem.W.tabObj #[]))
 (F:∀(w:World) (mg:Str->Option Value) (fa:Addr) (h:Heap),(K w.params).In h->h.Ns mainGlobals mg->mg d.name=some (.ref fa)->
  ∃c0:Addr,(K w.params).lookup T0=none/\PySem.W.codeHdIn (K w.params) c0 T0=true/\∃fd:FuncData,(∀(s:Shared) (u:Value),BindsTo s fd ⟨[u],[]⟩ [("_law_script",u)])/\∀base:Heap,(K w.params).In base->base.Ns mainGlobals mg->base.BuiltinsAt mg T0->FnOk l.prog w (K w.params) mg base CX0 45 fa fd ["_law_script"] (lY (K w.params) T0)):
 PySem.W.WalkO q loose XP YP l.row.toRowW d [] (fun f vs=>PySem.call f vs):=
 L2.walk_ofT (n:=63) (k:=45) (x:="_law_script") (CX:=fun _=>CX0) (sp:=fun w T0=>lY (K w.params) T0) hn (by decide) hdf ⟨rfl,by decide,by decide,rfl⟩ hY hYT F (fun _ _ a ns hl hT hS=>⟨a,ns,rfl,hS,hl, .inl hT,fun _=>rfl⟩) fun _ _ _ _ _ z=>z
end K45
def PySem.W.Fast.tw235165604521350581:Unit:=()
def PySem.W.Fast.tw9861038878696931557:Unit:=()
def PySem.W.Fast.tw17400997070466025424:Unit:=()
def PySem.W.Fast.tw12615391483651066769:Unit:=()
def PySem.W.Fast.tw9203706698937199457:Unit:=()
def PySem.W.Fast.tw673902052397952874:Unit:=()
def PySem.W.Fast.tw3618792665829752159:Unit:=()
def PySem.W.Fast.tw18258228284151915495:Unit:=()
def PySem.W.Fast.tw6724152863932523570:Unit:=()
def PySem.W.Fast.tw14517408066129326352:Unit:=()
def PySem.W.Fast.tw4704457591628646121:Unit:=()
def PySem.W.Fast.tw6742183000538908363:Unit:=()
def PySem.W.Fast.tw12008490413594830887:Unit:=()
def PySem.W.Fast.tw18232053175980802163:Unit:=()
def PySem.W.Fast.tw1575414617672477660:Unit:=()
def PySem.W.Fast.tw7273138939418265125:Unit:=()
def PySem.W.Fast.tw6435319052401322319:Unit:=()
def PySem.W.Fast.tw11705039870777741294:Unit:=()
def PySem.W.Fast.tw11527476074250344581:Unit:=()
def PySem.W.Fast.tw10443712239351786470:Unit:=()
def PySem.W.Fast.tw13468085128241784597:Unit:=()
def PySem.W.Fast.tw2105915730398476396:Unit:=()
def PySem.W.Fast.tw4455782927009500181:Unit:=()
def PySem.W.Fast.tw5594027067443666112:Unit:=()
def PySem.W.Fast.tw3499507579719553241:Unit:=()
def PySem.W.Fast.tw13020141539037277171:Unit:=()
def PySem.W.Fast.tw8644294630543906039:Unit:=()
def PySem.W.Fast.tw5334793242943395786:Unit:=()
def PySem.W.Fast.tw15972692411655811581:Unit:=()
def PySem.W.Fast.tw12895790103334822749:Unit:=()
def PySem.W.Fast.tw6833273049166916653:Unit:=()
def PySem.W.Fast.tw11071557047356075315:Unit:=()
def PySem.W.Fast.tw6647501457696347654:Unit:=()
def PySem.W.Fast.tw14639635075940033680:Unit:=()
def PySem.W.Fast.tw248192047718762595:Unit:=()
def PySem.W.Fast.tw6141996763657038221:Unit:=()
def PySem.W.Fast.tw13286775960499580320:Unit:=()
open PySem PySem.W PyProof.Rows
set_option maxRecDepth 100000 in
set_option maxHeartbeats 0 in
theorem PySem.Challenge.cw_smallword_k45_many_bounds_holds : PySem.Challenge.rw_smallword_k45_many_bounds.Holds := by
  w_on; o_law; k_head; (case hw => w_witness2)
  k_fill
  refine K45.walk (l := PySem.Challenge.rw_smallword_k45_many_bounds) (T0 := _) rfl rfl (fun w h Y => PySem.W.km_in_of Y) (fun w h Y => PySem.W.km_tabs_of Y _ (by first | exact List.mem_cons_self | decide)) ?F
  case F =>
    intro w mg fa h KX G hmg;refine' K45.all_mk KX G hmg (.mk' ?_ ?_ ?_ ?_) (.mk' ?_ ?_ ?_ ?_) (.mk' ?_ ?_ ?_ ?_) (.mk' ?_ ?_ ?_ ?_) (.mk' ?_ ?_ ?_ ?_) (.mk' ?_ ?_ ?_ ?_) (.mk' ?_ ?_ ?_ ?_) (.mk' ?_ ?_ ?_ ?_) (.mk' ?_ ?_ ?_ ?_) (.mk' ?_ ?_ ?_ ?_) (.mk' ?_ ?_ ?_ ?_) (.mk' ?_ ?_ ?_ ?_) (.mk' ?_ ?_ ?_ ?_) (.mk' ?_ ?_ ?_ ?_) (.mk' ?_ ?_ ?_ ?_) ?_ ?_ ?_ ?_ (.mk' ?_ ?_ ?_ ?_) (.mk' ?_ ?_ ?_ ?_) (.mk' ?_ ?_ ?_ ?_) (.mk' ?_ ?_ ?_ ?_) (.mk' ?_ ?_ ?_ ?_) (.mk' ?_ ?_ ?_ ?_) (.mk' ?_ ?_ ?_ ?_) (.mk' ?_ ?_ ?_ ?_) (.mk' ?_ ?_ ?_ ?_) (.mk' ?_ ?_ ?_ ?_) (.mk' ?_ ?_ ?_ ?_) (.mk' ?_ ?_ ?_ ?_) (.mk' ?_ ?_ ?_ ?_) (.mk' ?_ ?_ ?_ ?_) (.mk' ?_ ?_ ?_ ?_) (.mk' ?_ ?_ ?_ ?_) (.mk' ?_ ?_ ?_ ?_) (.mk' ?_ ?_ ?_ ?_) ?_ ?_ ?_ ?_ ?_ ?_ ?_ ?_ ?_ ?_ ?_ ?_ ?_ ?_ ?_ ?_ ?_ ?_ ?_ ?_ ?_ ?_ ?_ ?_ ?_ ?_ ?_ ?_ ?_ ?_ ?_ ?_ ?_ ?_ ?_ ?_ ?_ ?xT ?xN
    any_goals k_is
    any_goals kernel_rfl
