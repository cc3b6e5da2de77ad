import PyProof.Rows.All
import Wide.All
import OpenK.AllK
import Wide.FinOn
import Lean
import PyProof.EqAt
import PyProof.EqKinds
import PyProof.TupleCall
import KE.KSortTup
import PyProof.NeKinds
import KE.KIntText
import KE.KRevIter
import PyProof.Rows.Range3
import PyProof.StrLawsTight
import PyProof.DictRoadsH
import PyProof.ZipIter
import KE.LcSums
import KE.KListMore
import KE.KDictList
import KE.KDictLaws
import PyProof.WalksEnum
import PyProof.EnumMake
import PyProof.Rows.EnumRows
import PyProof.Draws
import PyProof.DictCompW
import PyProof.Rows.SortKeyStr
import PyProof.Rows.SortWalk
import KE.KMinKey
import PyProof.NsDelKeeps
import PyProof.RulesDel
import PyProof.RulesDelMore
import PyProof.DelItemList
import KE.KNestM
import KE.KLam
import PyProof.ListRange
import KE.KFind
import PyProof.Rows.SortLt
import PyProof.SeqI3
import KE.KItemsList
import PySem.Challenge.RW_smallword_k46_turns_that_go_round
set_option Elab.async false
set_option linter.all false
set_option maxRecDepth 100000
set_option compiler.extract_closed false
set_option maxHeartbeats 8000000
section
variable{α β γ δ ε ζ η θ ι κ μ:Type}{P₁ Q₁ R₁ V₁:α->Prop}{P₂ Q₂ R₂ V₂:α->β->Prop}{P₃ Q₃ R₃ S₃ V₃:α->β->γ->Prop}{P₄ Q₄ R₄ S₄ V₄:α->β->γ->δ->Prop}{P₅ Q₅ R₅ S₅ T₅ V₅:α->β->γ->δ->ε->Prop}{P₆ Q₆ R₆ S₆ T₆ V₆:α->β->γ->δ->ε->ζ->Prop}
theorem Y2(a:α)(p:P₁ a)(b:β)(c:γ)(d:δ)(e:ε)(h:V₅ a b c d e):∃a,P₁ a/\∃b c d e,V₅ a b c d e:=⟨a,p,b,c,d,e,h⟩
theorem Y3(a:α)(p:P₁ a)(h:V₁ a):∃a,P₁ a/\V₁ a:=⟨a,p,h⟩
theorem Y4(a:α)(b:β)(h:V₂ a b):∃a b,V₂ a b:=⟨a,b,h⟩
theorem Y5(a:α)(b:β)(p:P₂ a b)(q:Q₂ a b)(h:V₂ a b):∃a b,P₂ a b/\Q₂ a b/\V₂ a b:=⟨a,b,p,q,h⟩
theorem Y6(a:α)(b:β)(c:γ)(d:δ)(h:V₄ a b c d):∃a b c d,V₄ a b c d:=⟨a,b,c,d,h⟩
theorem Y7(a:α)(b:β)(p:P₂ a b)(q:Q₂ a b)(r:R₂ a b)(h:V₂ a b):∃a b,P₂ a b/\Q₂ a b/\R₂ a b/\V₂ a b:=⟨a,b,p,q,r,h⟩
theorem Y8(a:α)(p:P₁ a)(q:Q₁ a)(h:V₁ a):∃a,P₁ a/\Q₁ a/\V₁ a:=⟨a,p,q,h⟩
theorem Y9(a:α)(p:P₁ a)(b:β)(c:γ)(d:δ)(e:ε)(f:ζ)(q:P₆ a b c d e f)(r:Q₆ a b c d e f)(s:R₆ a b c d e f)(t:S₆ a b c d e f)(u:T₆ a b c d e f)(h:V₆ a b c d e f):∃a,P₁ a/\∃b c d e f,P₆ a b c d e f/\Q₆ a b c d e f/\R₆ a b c d e f/\S₆ a b c d e f/\T₆ a b c d e f/\V₆ a b c d e f:=⟨a,p,b,c,d,e,f,q,r,s,t,u,h⟩
theorem U2(a:α)(p:P₁ a)(b:β)(c:γ)(d:δ)(e:ε)(q:P₅ a b c d e)(r:Q₅ a b c d e)(s:R₅ a b c d e)(t:S₅ a b c d e)(h:V₅ a b c d e):∃a,P₁ a/\∃b c d e,P₅ a b c d e/\Q₅ a b c d e/\R₅ a b c d e/\S₅ a b c d e/\V₅ a b c d e:=⟨a,p,b,c,d,e,q,r,s,t,h⟩
theorem U3(a:α)(b:β)(p:P₂ a b)(h:V₂ a b):∃a b,P₂ a b/\V₂ a b:=⟨a,b,p,h⟩
theorem U4(a:α)(b:β)(c:γ)(p:P₃ a b c)(q:Q₃ a b c)(r:R₃ a b c)(s:S₃ a b c)(h:V₃ a b c):∃a b c,P₃ a b c/\Q₃ a b c/\R₃ a b c/\S₃ a b c/\V₃ a b c:=⟨a,b,c,p,q,r,s,h⟩
theorem U5(a:α)(p:P₁ a)(b:β)(q:P₂ a b)(h:V₂ a b):∃a,P₁ a/\∃b,P₂ a b/\V₂ a b:=⟨a,p,b,q,h⟩
theorem U6(a:α)(p:P₁ a)(b:β)(c:γ)(q:P₃ a b c)(r:Q₃ a b c)(s:R₃ a b c)(h:V₃ a b c):∃a,P₁ a/\∃b c,P₃ a b c/\Q₃ a b c/\R₃ a b c/\V₃ a b c:=⟨a,p,b,c,q,r,s,h⟩
theorem U7{V:α->β->γ->δ->ε->ζ->η->θ->ι->κ->μ->Prop}(a:α)(p:P₁ a)(b:β)(c:γ)(d:δ)(e:ε)(f:ζ)(g:η)(i:θ)(j:ι)(k:κ)(l:μ)(h:V a b c d e f g i j k l):∃a,P₁ a/\∃b c d e f g i j k l,V a b c d e f g i j k l:=⟨a,p,b,c,d,e,f,g,i,j,k,l,h⟩
theorem U8(a:α)(p:P₁ a)(q:Q₁ a)(r:R₁ a)(h:V₁ a):∃a,P₁ a/\Q₁ a/\R₁ a/\V₁ a:=⟨a,p,q,r,h⟩
theorem U9(a:α)(p:P₁ a)(b:β)(c:γ)(q:P₃ a b c)(r:Q₃ a b c)(h:V₃ a b c):∃a,P₁ a/\∃b c,P₃ a b c/\Q₃ a b c/\V₃ a b c:=⟨a,p,b,c,q,r,h⟩
theorem O2(a:α)(p:P₁ a)(b:β)(q:P₂ a b)(c:γ)(d:δ)(e:ε)(f:ζ)(r:P₆ a b c d e f)(s:Q₆ a b c d e f)(t:R₆ a b c d e f)(u:S₆ a b c d e f)(h:V₆ a b c d e f):∃a,P₁ a/\∃b,P₂ a b/\∃c d e f,P₆ a b c d e f/\Q₆ a b c d e f/\R₆ a b c d e f/\S₆ a b c d e f/\V₆ a b c d e f:=⟨a,p,b,q,c,d,e,f,r,s,t,u,h⟩
theorem O3(a:α)(b:β)(p:P₂ a b)(q:Q₂ a b)(r:R₂ a b)(c:γ)(d:δ)(s:P₄ a b c d)(e:ε)(f:ζ)(t:P₆ a b c d e f)(u:Q₆ a b c d e f)(h:V₆ a b c d e f):∃a b,P₂ a b/\Q₂ a b/\R₂ a b/\∃c d,P₄ a b c d/\∃e f,P₆ a b c d e f/\Q₆ a b c d e f/\V₆ a b c d e f:=⟨a,b,p,q,r,c,d,s,e,f,t,u,h⟩
theorem O4{V7:α->β->γ->δ->ε->ζ->η->Prop}{V8:α->β->γ->δ->ε->ζ->η->θ->ι->κ->μ->Prop}{V9:α->β->γ->δ->ε->ζ->η->θ->ι->κ->μ->Prop}{V10:α->β->γ->δ->ε->ζ->η->θ->ι->κ->μ->Prop}{V11:α->β->γ->δ->ε->ζ->η->θ->ι->κ->μ->Prop}{V:α->β->γ->δ->ε->ζ->η->θ->ι->κ->μ->Prop}(a:α)(p:P₁ a)(b:β)(c:γ)(d:δ)(e:ε)(f:ζ)(q:P₆ a b c d e f)(r:Q₆ a b c d e f)(s:R₆ a b c d e f)(t:S₆ a b c d e f)(u:T₆ a b c d e f)(g:η)(v:V7 a b c d e f g)(i:θ)(j:ι)(k:κ)(l:μ)(w:V8 a b c d e f g i j k l)(x:V9 a b c d e f g i j k l)(y:V10 a b c d e f g i j k l)(z:V11 a b c d e f g i j k l)(h:V a b c d e f g i j k l):∃a,P₁ a/\∃b c d e f,P₆ a b c d e f/\Q₆ a b c d e f/\R₆ a b c d e f/\S₆ a b c d e f/\T₆ a b c d e f/\∃g,V7 a b c d e f g/\∃i j k l,V8 a b c d e f g i j k l/\V9 a b c d e f g i j k l/\V10 a b c d e f g i j k l/\V11 a b c d e f g i j k l/\V a b c d e f g i j k l:=⟨a,p,b,c,d,e,f,q,r,s,t,u,g,v,i,j,k,l,w,x,y,z,h⟩
theorem O5(a:α)(p:P₁ a)(q:Q₁ a)(b:β)(r:P₂ a b)(h:V₂ a b):∃a,P₁ a/\Q₁ a/\∃b,P₂ a b/\V₂ a b:=⟨a,p,q,b,r,h⟩
theorem O6(a:α)(b:β)(c:γ)(d:δ)(e:ε)(p:P₅ a b c d e)(q:Q₅ a b c d e)(r:R₅ a b c d e)(s:S₅ a b c d e)(t:T₅ a b c d e)(h:V₅ a b c d e):∃a b c d e,P₅ a b c d e/\Q₅ a b c d e/\R₅ a b c d e/\S₅ a b c d e/\T₅ a b c d e/\V₅ a b c d e:=⟨a,b,c,d,e,p,q,r,s,t,h⟩
theorem O7(a:α)(b:β)(c:γ)(d:δ)(e:ε)(f:ζ)(p:P₆ a b c d e f)(q:Q₆ a b c d e f)(r:R₆ a b c d e f)(s:S₆ a b c d e f)(h:V₆ a b c d e f):∃a b c d e f,P₆ a b c d e f/\Q₆ a b c d e f/\R₆ a b c d e f/\S₆ a b c d e f/\V₆ a b c d e f:=⟨a,b,c,d,e,f,p,q,r,s,h⟩
theorem O8{V6:α->β->γ->δ->ε->ζ->η->Prop}{V7:α->β->γ->δ->ε->ζ->η->Prop}{V8:α->β->γ->δ->ε->ζ->η->θ->Prop}{V:α->β->γ->δ->ε->ζ->η->θ->Prop}(a:α)(p:P₁ a)(b:β)(c:γ)(d:δ)(e:ε)(q:P₅ a b c d e)(r:Q₅ a b c d e)(s:R₅ a b c d e)(t:S₅ a b c d e)(f:ζ)(g:η)(u:V6 a b c d e f g)(v:V7 a b c d e f g)(i:θ)(w:V8 a b c d e f g i)(h:V a b c d e f g i):∃a,P₁ a/\∃b c d e,P₅ a b c d e/\Q₅ a b c d e/\R₅ a b c d e/\S₅ a b c d e/\∃f g,V6 a b c d e f g/\V7 a b c d e f g/\∃i,V8 a b c d e f g i/\V a b c d e f g i:=⟨a,p,b,c,d,e,q,r,s,t,f,g,u,v,i,w,h⟩
theorem O9(a:α)(b:β)(c:γ)(d:δ)(p:P₄ a b c d)(q:Q₄ a b c d)(r:R₄ a b c d)(s:S₄ a b c d)(h:V₄ a b c d):∃a b c d,P₄ a b c d/\Q₄ a b c d/\R₄ a b c d/\S₄ a b c d/\V₄ a b c d:=⟨a,b,c,d,p,q,r,s,h⟩
theorem J2(a:α)(b:β)(c:γ)(p:P₃ a b c)(q:Q₃ a b c)(h:V₃ a b c):∃a b c,P₃ a b c/\Q₃ a b c/\V₃ a b c:=⟨a,b,c,p,q,h⟩
theorem J3(a:α)(p:P₁ a)(b:β)(q:P₂ a b)(r:Q₂ a b)(h:V₂ a b):∃a,P₁ a/\∃b,P₂ a b/\Q₂ a b/\V₂ a b:=⟨a,p,b,q,r,h⟩
theorem J4(a:α)(p:P₁ a)(b:β)(c:γ)(d:δ)(q:P₄ a b c d)(h:V₄ a b c d):∃a,P₁ a/\∃b c d,P₄ a b c d/\V₄ a b c d:=⟨a,p,b,c,d,q,h⟩
theorem J5{V:α->β->γ->δ->ε->ζ->η->θ->ι->κ->μ->Prop}(a:α)(p:P₁ a)(b:β)(q:P₂ a b)(c:γ)(r:P₃ a b c)(d:δ)(e:ε)(f:ζ)(g:η)(i:θ)(j:ι)(k:κ)(l:μ)(h:V a b c d e f g i j k l):∃a,P₁ a/\∃b,P₂ a b/\∃c,P₃ a b c/\∃d e f g i j k l,V a b c d e f g i j k l:=⟨a,p,b,q,c,r,d,e,f,g,i,j,k,l,h⟩
theorem J6(a:α)(p:P₁ a)(q:Q₁ a)(b:β)(h:V₂ a b):∃a,P₁ a/\Q₁ a/\∃b,V₂ a b:=⟨a,p,q,b,h⟩
theorem J7(a:α)(p:P₁ a)(b:β)(c:γ)(q:P₃ a b c)(r:Q₃ a b c)(d:δ)(e:ε)(s:P₅ a b c d e)(t:Q₅ a b c d e)(f:ζ)(u:P₆ a b c d e f)(h:V₆ a b c d e f):∃a,P₁ a/\∃b c,P₃ a b c/\Q₃ a b c/\∃d e,P₅ a b c d e/\Q₅ a b c d e/\∃f,P₆ a b c d e f/\V₆ a b c d e f:=⟨a,p,b,c,q,r,d,e,s,t,f,u,h⟩
end
theorem hZq{p:Prop}(h:∀q:Prop,q=p->q):p:=h p rfl
namespace Zz
def yR:=@List.length_map
def yS:=@List.getElem?_eq_getElem
def yT:=@List.mem_cons_self
def yU:=@List.mem_cons_of_mem
def yV:=@Nat.le_refl
def yW:=@List.getElem?_map
def yX:=@List.size_toArray
def yY:=@List.mem_cons
def yZ:=@List.getElem?_eq_some_iff
def z5:=@List.mem_of_getElem?
def z7:=@Nat.le_trans
def z8:=@List.getD_eq_getElem?_getD
def z9:=@Option.some.inj
def za:=@Option.map_eq_some_iff
def zc:=@Nat.zero_le
def zd:=@List.map_append
def ze:=@Nat.lt_of_lt_of_le
def zf:=@List.not_mem_nil
def zg:=@List.length_cons
def zh:=@List.map_cons
def zj:=@List.length_append
def zk:=@Nat.lt_of_le_of_lt
def zm:=@Int.mul_zero
def zo:=@Nat.ne_of_lt
def zp:=@List.take_length
def zq:=@List.mem_singleton
def zr:=@List.mem_map
def zt:=@Bool.false_ne_true
def zu:=@List.length_filter_le
def zv:=@List.length_take
def zw:=@List.mem_append
def zx:=@List.filter_append
def zy:=@List.mem_append_right
def zA:=@Int.natAbs_mul
def zB:=@Int.gcd_pos_of_ne_zero_right
def zC:=@List.mem_filter
def zE:=@Nat.pow_le_pow_right
def zG:=@Nat.lt_succ_self
def zH:=@List.range_succ
def zJ:=@List.getElem_mem
def zK:=@List.cons_append
def zN:=@Nat.lt_irrefl
def zO:=@Int.fdiv_eq_ediv_of_nonneg
def zQ:=@Int.zero_mul
def zX:=@Array.length_toList
def zY:=@Array.getElem?_eq_getElem
def zZ:=@List.mem_range
def A3:=@List.length_range
def A4:=@Int.natAbs_neg
def A5:=@Array.getElem?_toList
def A6:=@List.mem_map_of_mem
def A7:=@List.pairwise_iff_getElem
def A8:=@List.lookup_cons
def A9:=@Int.mul_comm
def Aa:=@List.take_zero
def Ab:=@List.nodup_cons
def Ac:=@List.getElem_of_mem
def Ad:=@Int.mul_nonpos_of_nonpos_of_nonneg
def Ae:=@List.zip_cons_cons
def Af:=@List.mem_append_left
def Ag:=@List.nodup_iff_pairwise_ne
def Ah:=@Nat.add_le_add_left
def Ai:=@List.find?_cons
def Aj:=@List.map_map
def Ak:=@Bool.false_eq_true
def Al:=@Int.le_refl
def Am:=@Nat.mul_le_mul_right
def An:=@List.toList_toArray
def Ao:=@Int.neg_mul
def Ap:=@Int.add_zero
def Aq:=@List.getElem?_append_right
def Ar:=@List.getElem?_eq_none
def As:=@List.getElem?_append_left
def Au:=@Int.mul_pos
def Av:=@List.cons.injEq
def Aw:=@List.append_nil
def Ax:=@Int.zero_add
def Ay:=@Int.mul_le_mul_of_nonneg_right
def Az:=@Bool.eq_iff_iff
def AA:=@Int.mul_le_mul_of_nonneg_left
def AB:=@Nat.mul_le_mul
def AC:=@Nat.le_add_right
def AD:=@Int.mul_nonneg
def AE:=@Bool.and_eq_true
def AF:=@List.pairwise_cons
def AG:=@Int.le_of_lt
def AH:=@Nat.not_lt_zero
def AI:=@Int.mul_assoc
def AK:=@Nat.lt_succ_of_lt
def AL:=@List.append_assoc
end Zz
open Zz
namespace L2
open PySem PySem.Spec PyProof.Rows
abbrev Key:=Sum Int Str
noncomputable def fW:Key->Value->Bool
 | .inl k,v=>Value.isInt k v
 | .inr x,v=>Value.isStrOf x v
noncomputable def keyH(w:World):Key->Int
 | .inl k=>hashInt k
 | .inr x=>hashStr w x
theorem aJ:∀ {k:Key} {v:Value},fW k v=true->(∃i t,k=Sum.inl i/\v=Value.int i t)\/(∃x t,k=Sum.inr x/\v=Value.str x t)
 | .inl i,v,h=>by
  obtain⟨t,e⟩:=Value.isInt_shape (k:=i) (v:=v) h;exact .inl ⟨i,t,rfl,e⟩
 | .inr x,v,h=>by
  obtain⟨t,e⟩:=Value.isStrOf_shape (x:=x) (v:=v) h;exact .inr ⟨x,t,rfl,e⟩
theorem iQ(i:Int)(t:Tok):fW (.inl i) (.int i t)=true:=by simp[fW,Value.isInt]
theorem iP(x:Str)(t:Tok):fW (.inr x) (.str x t)=true:=by simp[fW,Value.isStrOf]
theorem xy(a b:Int):decide ((Sum.inl a:Key)=Sum.inl b)=(a==b):=by
 by_cases e:a=b
 . subst e;simp
 . have h:¬(Sum.inl a:Key)=Sum.inl b:=fun q=>e (Sum.inl.inj q);rw[decide_eq_false h];exact(beq_eq_false_iff_ne.mpr e).symm
theorem xu(a b:Str):decide ((Sum.inr a:Key)=Sum.inr b)=decide (a=b):=by
 by_cases e:a=b
 . subst e;simp
 . have h:¬(Sum.inr a:Key)=Sum.inr b:=fun q=>e (Sum.inr.inj q);rw[decide_eq_false h,decide_eq_false e]
theorem xx(a:Int)(b:Str):decide ((Sum.inl a:Key)=Sum.inr b)=false:=decide_eq_false (fun q=>nomatch q)
theorem xv(a:Str)(b:Int):decide ((Sum.inr a:Key)=Sum.inl b)=false:=decide_eq_false (fun q=>nomatch q)
noncomputable def aO(prog:Program)(w:World):PySem.KeyKind prog w Key where
 is:=fW
 hash:=keyH w
 inj:=fun v a b ha hb=>by
  rcases aJ ha with⟨i,t,rfl,rfl⟩|⟨x,t,rfl,rfl⟩
  . rcases aJ hb with⟨j,u,rfl,e⟩|⟨y,u,rfl,e⟩
    . injection e with e1 _;rw[e1]
    . exact nomatch e
  . rcases aJ hb with⟨j,u,rfl,e⟩|⟨y,u,rfl,e⟩
    . exact nomatch e
    . injection e with e1 _;rw[e1]
 byValue:=fun k v h=>by
  rcases aJ h with⟨i,t,rfl,rfl⟩|⟨x,t,rfl,rfl⟩<;>rfl
 pyHash:=fun hv h=>by
  rcases aJ hv with⟨i,t,rfl,rfl⟩|⟨x,t,rfl,rfl⟩
  . exact wpAny_pyHash_int h
  . exact wpAny_pyHash_str h
 eqBool:=fun hu hv h=>by
  rcases aJ hu with⟨i,t,rfl,rfl⟩|⟨x,t,rfl,rfl⟩
  . rcases aJ hv with⟨j,u,rfl,rfl⟩|⟨y,u,rfl,rfl⟩
    . rw[xy]at h;exact wpAny_eqBool_int h
    . rw[xx]at h;exact SeqAt.EqAt.int_str i t y u _ _ _ _ h
  . rcases aJ hv with⟨j,u,rfl,rfl⟩|⟨y,u,rfl,rfl⟩
    . rw[xv]at h;exact SeqAt.EqAt.str_int x t j u _ _ _ _ h
    . rw[xu]at h;exact wpAny_eqBool_str h
 «strs»:=fun k x t v h=>by
  rcases aJ h with⟨i,u,rfl,e⟩|⟨y,u,rfl,e⟩
  . exact nomatch e
  . injection e with e1 _;subst e1;cases v<;>rfl
theorem ky(prog:Program)(w:World)(i:Int)(t:Tok):(aO prog w).is (.inl i) (.int i t)=true:=iQ i t
theorem ku(prog:Program)(w:World)(x:Str)(t:Tok):(aO prog w).is (.inr x) (.str x t)=true:=iP x t
inductive V where
 |non|bl (b:Bool)|int (i:Int)|str (x:Str)|byt (b:Array UInt8)|flt (b:UInt64)|ref (a:Addr)|ty (n:String)
 deriving DecidableEq
def RelV:V->Value->Prop
 | .non,u=>u=Value.none
 | .bl b,u=>u=Value.bool b
 | .int i,u=>∃t,u=Value.int i t
 | .str x,u=>∃t,u=Value.str x t
 | .byt b,u=>∃t,u=Value.bytes b t
 | .flt b,u=>∃t,u=Value.float b t
 | .ref a,u=>u=Value.ref a
 | .ty n,u=>u=Value.type n
abbrev Vals:List V->List Value->Prop:=Paired RelV
theorem Vals.length{xs:List V}{us:List Value}(r:Vals xs us):xs.length=us.length:=Paired.length r
theorem Vals.get:∀ {xs:List V} {us:List Value} {i:Nat} {x:V},Vals xs us->xs[i]?=some x->∃u,us[i]?=some u/\RelV x u
 |_,_,_,_, .nil,e=>by simp at e
 |_,_,0,_, .cons r _,e=>by simp at e;subst e;exact⟨_,rfl,r⟩
 |_,_,i+1,x, .cons _ t,e=>by
  obtain⟨u,h1,h2⟩:=Vals.get (i:=i) (x:=x) t (by simpa using e)
  exact⟨u,by simpa using h1,h2⟩
theorem Vals.set{x:V}{u:Value}(r:RelV x u):∀ {xs:List V} {us:List Value} (i:Nat),Vals xs us->Vals (xs.set i x) (us.set i u)
 |_,_,_, .nil=> .nil
 |_,_,0, .cons _ t=> .cons r t
 |_,_,i+1, .cons q t=> .cons q (Vals.set r i t)
theorem Vals.append:∀ {xs ys:List V} {us ws:List Value},Vals xs us->Vals ys ws->Vals (xs++ys) (us++ws)
 |_,_,_,_, .nil,s=>s
 |_,_,_,_, .cons r t,s=> .cons r (Vals.append t s)
theorem Vals.take:∀ {xs:List V} {us:List Value} (n:Nat),Vals xs us->Vals (xs.take n) (us.take n)
 |_,_,0,_=> .nil
 |_,_,_+1, .nil=> .nil
 |_,_,n+1, .cons r t=> .cons r (Vals.take n t)
theorem Vals.drop:∀ {xs:List V} {us:List Value} (n:Nat),Vals xs us->Vals (xs.drop n) (us.drop n)
 |_,_,0,r=>r
 |_,_,_+1, .nil=> .nil
 |_,_,n+1, .cons _ t=>Vals.drop n t
def RelO:Option V->Option Value->Prop
 |some v,some u=>RelV v u
 |none,none=>True
 |_,_=>False
variable{o u:HO}{H H' H1:Hp}{ex:List Addr}{a e x:Addr}{h h' h1:Heap}{ob:Obj}{P:Program}{w:World}{κ α:Type}
def KV:List (κ×V)->List (κ×Value)->Prop:=Paired fun(p:κ×V) (q:κ×Value)=>p.1=q.1/\RelV p.2 q.2
def kV:Key->V
 | .inl i=> .int i
 | .inr x=> .str x
inductive HO where
 |lst (xs:List V)
 |tup (xs:List V)
 |dK (kvs:List (Key×V))|dT (kvs:List (List Key×V))
 |set (S:Int->Bool) (n:Nat)
 |ins (C dx:Addr) (fs:List (Str×V))
 |own (x:Addr)
 |xd (fs:List (Str×V))
 |met (f x:Addr)
 |rng (lo hi:Int)
 |frz (o:Obj) (u:HO)
 |tbl (ps:Array Value)
 |ext (φ:Heap->Prop)
abbrev Hp:=Addr->Option HO
noncomputable def upd(H:Hp)(a:Addr)(o:HO):Hp:=fun b=>if b=a then some o else H b
theorem a8:upd H a o a=some o:=by unfold upd;rw[if_pos rfl]
theorem ae{b:Addr}(h:b≠a):upd H a o b=H b:=by unfold upd;rw[if_neg h]
theorem j5:upd (upd H a o) a u=upd H a u:=by
 funext b;unfold upd;split<;>rfl
theorem ay{b:Addr}(h:H a=some o)(h':H b=none):a≠b:=by
 intro e;subst e;rw[h]at h';cases h'
section
variable(P:Program)(w:World)
def ObjOk(H:Hp)(h:Heap)(a:Addr):HO->Prop
 | .lst xs=>xs.length<=sizeLine/\∃(its:List Value) (n:Nat),Vals xs its/\h.get? a=some {cls:= .type "list",data:= .seq its.toArray n}
 | .tup xs=>xs.length<=sizeLine/\∃its:List Value,Vals xs its/\IsTup h a its.toArray
 | .dK kvs=>kvs.length<=sizeLine/\(a==sysModules)=false/\∃vs,KV kvs vs/\h.DictOf (aO P w) a vs
 | .dT kvs=>kvs.length<=sizeLine/\(a==sysModules)=false/\∃xs:List (List Key×Addr×Value),
  Paired (fun(p:List Key×V) (q:List Key×Addr×Value)=>p.1=q.1/\H q.2.1=some (.tup (p.1.map kV))/\RelV p.2 q.2.2) kvs xs/\
  ∃o es ep,h.get? a=some o/\o.ExactDict/\o.data= .dict es ep/\es.toList=xs.map (entryOfKey (tupleKind (aO P w)))/\(xs.map (·.1)).Nodup
 | .set S n=>h.SetOf (intKind P w) a S n
 | .ins C dx fs=>H dx=some (.own a)/\fs.length<=1000/\dx≠a/\h.get? a=some (PySem.W.instObj C dx)/\
  ∃mA,h.Ns1 dx mA/\(∀f,RelO (fs.lookup f) (mA f))/\PySem.Within mA (fs.map (·.1))
 | .own _=>∃o,h.get? a=some o
 | .xd fs=>∃mA,h.Ns1 a mA/\∀f,RelO (fs.lookup f) (mA f)
 | .rng lo hi=>∃t u v,h.get? a=some {cls:= .type "range",data:= .fields #[.int lo t, .int hi u, .int 1 v]}
 | .frz o u=>h.get? a=some o/\ObjOk H h a u
 | .tbl ps=>h.get? a=some {cls:= .none,data:= .fields ps}
 | .met f x=>h.get? a=some (PySem.W.methodObj (.ref f) (.ref x))
 | .ext φ=>φ h/\(∃o,h.get? a=some o)/\∀h1 h2:Heap,φ h1->(∀o,h1.get? a=some o->h2.get? a=some o)->φ h2
def HOk(H:Hp)(h:Heap):Prop:=∀a o,H a=some o->ObjOk P w H h a o
end
theorem ObjOk.lt(x:ObjOk P w H h a o):a < h.objs.size:=by
 cases o with
 |lst xs=>obtain⟨_,_,_,_,e⟩:=x;exact Heap.lt_size e
 |tup xs=>obtain⟨_,_,_,p⟩:=x;exact p.lt
 |dK kvs=>obtain⟨_,_,_,_,o,_,_,e,_⟩:=x;exact Heap.lt_size e
 |dT kvs=>obtain⟨_,_,_,_,o,_,_,e,_⟩:=x;exact Heap.lt_size e
 |set S n=>obtain⟨o,_,_,_,e,_⟩:=x;exact Heap.lt_size e
 |ins C dx fs=>obtain⟨_,_,_,e,_⟩:=x;exact Heap.lt_size e
 |own y=>obtain⟨_,e⟩:=x;exact Heap.lt_size e
 |xd fs=>obtain⟨_,⟨_,_,_,e,_⟩,_⟩:=x;exact Heap.lt_size e
 |rng lo hi=>obtain⟨_,_,_,e⟩:=x;exact Heap.lt_size e
 |frz ob u=>obtain⟨e,_⟩:=x;exact Heap.lt_size e
 |tbl ps=>exact Heap.lt_size (show h.get? a=some _ from x)
 |met f y=>exact Heap.lt_size (show h.get? a=some _ from x)
 |ext φ=>obtain⟨_,⟨_,e⟩,_⟩:=x;exact Heap.lt_size e
theorem Paired.mapP{α β:Type}{F G:α->β->Prop}:∀ {l₁:List α} {l₂:List β},Paired F l₁ l₂->(∀a b,F a b->G a b)->Paired G l₁ l₂
 |_,_, .nil,_=> .nil
 |_,_, .cons r t,f=> .cons (f _ _ r) (Paired.mapP t f)
theorem Paired.imp'{β:Type}{F G:α->β->Prop}(f:∀a b,F a b->G a b){l₁:List α}{l₂:List β}(r:Paired F l₁ l₂):Paired G l₁ l₂:=Paired.mapP r f
theorem ObjOk.stay(x:ObjOk P w H h a o)(k:∀b u,(b=a\/H b=some (.own a))->h.get? b=some u->h'.get? b=some u)(ho:∀b,H b=some (.own a)->H' b=some (.own a))(ht:∀b xs,H b=some (.tup xs)->H' b=some (.tup xs)):ObjOk P w H' h' a o:=by
 induction o with
 |lst xs=>obtain⟨z,its,n,r,e⟩:=x;exact⟨z,U3 its n r (k _ _ (.inl rfl) e)⟩
 |tup xs=>obtain⟨z,its,r,ob,e,c⟩:=x;exact⟨z,U5 its r ob (k _ _ (.inl rfl) e) c⟩
 |dK kvs=>obtain⟨z,y,vs,r,ob,es,ep,e,c⟩:=x;exact⟨z,y,J4 vs r ob es ep (k _ _ (.inl rfl) e) c⟩
 |dT kvs=>
  obtain⟨z,y,xs,r,ob,es,ep,e,c⟩:=x;exact⟨z,y,J4 xs (Paired.mapP r fun p q z=>⟨z.1,ht _ _ z.2.1,z.2.2⟩) ob es ep (k _ _ (.inl rfl) e) c⟩
 |set S n=>obtain⟨ob,es,ep,t,e,c⟩:=x;exact Y6 ob es ep t ⟨k _ _ (.inl rfl) e,c⟩
 |ins C dx fs=>
  obtain⟨d,z,ne,e,mA,⟨g,es,ep,i,c⟩,r⟩:=x;exact⟨ho _ d,z,ne,k _ _ (.inl rfl) e,Y3 mA ⟨g,U3 es ep (k _ _ (.inr d) i) c⟩ r⟩
 |own y=>obtain⟨ob,e⟩:=x;exact⟨ob,k _ _ (.inl rfl) e⟩
 |xd fs=>obtain⟨mA,⟨g,es,ep,e,c⟩,r⟩:=x;exact Y3 mA ⟨g,U3 es ep (k _ _ (.inl rfl) e) c⟩ r
 |rng lo hi=>obtain⟨t,u,v,e⟩:=x;exact⟨t,Y4 u v (k _ _ (.inl rfl) e)⟩
 |frz ob u j=>obtain⟨e,q⟩:=x;exact⟨k _ _ (.inl rfl) e,j q⟩
 |tbl ps=>
  have e:h.get? a=some {cls:= .none,data:= .fields ps}:=x;show h'.get? a=some {cls:= .none,data:= .fields ps};exact k a _ (.inl rfl) e
 |met f y=>
  have e:h.get? a=some (PySem.W.methodObj (.ref f) (.ref y)):=x;show h'.get? a=some (PySem.W.methodObj (.ref f) (.ref y));exact k a _ (.inl rfl) e
 |ext φ=>obtain⟨p,⟨o,e⟩,st⟩:=x;exact⟨st _ _ p fun o q=>k _ _ (.inl rfl) q,⟨o,k _ _ (.inl rfl) e⟩,st⟩
theorem HOk.lt(x:HOk P w H h)(e:H a=some o):a < h.objs.size:=(x a o e).lt
theorem HOk.fresh(x:HOk P w H h)(e:h.objs.size<=a):H a=none:=by
 cases q:H a with
 |none=>rfl
 |some u=>exact absurd (ze (x.lt q) e) (zN _)
theorem HOk.kept(x:HOk P w H h)(k:∀b u,h.get? b=some u->h'.get? b=some u):HOk P w H h':=fun a o e=>
 (x a o e).stay (fun b u _ q=>k b u q) (fun _ q=>q) fun _ _ q=>q
theorem HOk.laid(x:HOk P w H h)(k:∀b u,h.get? b=some u->h'.get? b=some u)(hp:h.objs.size<=a)(new:ObjOk P w (upd H a o) h' a o):HOk P w (upd H a o) h':=fun b u e=>by
 have hn:=x.fresh hp;by_cases hb:b=a
 . subst hb;rw[a8]at e;cases e;exact new
 . rw[ae hb]at e;exact(x b u e).stay (fun c v _ q=>k c v q) (fun c q=>by rw[ae (ay q hn)];exact q) fun c xs q=>by rw[ae (ay q hn)];exact q
def Rd(H:Hp)(a:Addr)(u:HO):Prop:=H a=some u\/∃o,H a=some (.frz o u)
theorem Rd.ok(r:Rd H a u)(x:HOk P w H h):ObjOk P w H h a u:=by
 rcases r with r|⟨o,r⟩
 . exact x a u r
 . obtain⟨_,q⟩:=x a _ r;exact q
def Mut:Option HO->Prop
 |some (.lst _)=>True
 |some (.dK _)=>True
 |some (.dT _)=>True
 |some (.set _ _)=>True
 |some (.ins _ _ _)=>True
 |some (.ext _)=>True
 |_=>False
theorem HOk.write{o':HO}(ok:HOk P w H h)(mu:Mut (H x))(he:e=x\/H e=some (.own x))(k:∀b u,b≠e->h.get? b=some u->h'.get? b=some u)(heo:∃u,h'.get? e=some u)(new:ObjOk P w (upd H x o') h' x o'):HOk P w (upd H x o') h':=fun b u q=>by
 have d:∀c y,H c=some (.own y)->c≠x:=fun c y r z=>by subst z;rw[r]at mu;exact mu
 have f:∀c xs,H c=some (.tup xs)->c≠x:=fun c xs r z=>by subst z;rw[r]at mu;exact mu
 by_cases hb:b=x
 . subst hb;rw[a8]at q;cases q;exact new
 . rw[ae hb]at q;by_cases a:b=e
   . have g:H b=some (.own x):=by
      rcases he with z|z
      . exact absurd (a.trans z) hb
      . rw[a];exact z
     rw[q]at g;cases g;obtain⟨v,hv⟩:=heo;exact⟨v,by rw[a];exact hv⟩
   . refine(ok b u q).stay (fun c v hc r=>k c v ?_ r) (fun c r=>by rw[ae (d c b r)];exact r) fun c xs r=>by rw[ae (f c xs r)];exact r
     rcases hc with rfl|hc
     . exact a
     . rintro rfl;rcases he with z|z
       . exact d c b hc z
       . rw[hc]at z;cases z;exact hb rfl
def Idl(x:Option HO):Prop:=x=none\/∃xs,x=some (.tup xs)
structure Un (fs ex:List Addr) (H H':Hp) (h h':Heap):Prop where
 keep:∀b o,h.get? b=some o->Idl (H b)->b∉fs->b∉ex->h'.get? b=some o
 slot:∀b o,h.get? b=some o->H b=none->b∈fs->b∉ex->∃sl,h'.get? b=some {o with slots:=sl}
 free:∀b o,h.get? b=some o->H b=none->b∉ex->H' b=none
 there:∀b o,h.get? b=some o->b∉ex->∃o',h'.get? b=some o'
 tups:∀b xs,H b=some (.tup xs)->H' b=some (.tup xs)
 frzs:∀b o u,H b=some (.frz o u)->H' b=some (.frz o u)
 tbls:∀b ps,H b=some (.tbl ps)->∃more,H' b=some (.tbl (ps++more))
theorem Un.any{fs:List Addr}(u:Un fs ex H H1 h h1){b:Addr}(q:h.get? b=some ob)(n:H b=none)(hx:b∉ex):∃sl,h1.get? b=some {ob with slots:=sl}:=by
 by_cases hb:b∈fs
 . exact u.slot b ob q n hb hx
 . exact⟨ob.slots,u.keep b ob q (.inl n) hb hx⟩
theorem Un.idl{fs:List Addr}(u:Un fs ex H H1 h h1){b:Addr}(q:h.get? b=some ob)(n:Idl (H b))(hx:b∉ex):Idl (H1 b):=by
 rcases n with n|⟨xs,n⟩
 . exact .inl (u.free b ob q n hx)
 . exact .inr ⟨xs,u.tups b xs n⟩
theorem Un.kept{fs:List Addr}(k:∀b u,h.get? b=some u->h'.get? b=some u):Un fs ex H H h h':=
 ⟨fun b ob q _ _ _=>k b ob q,fun b ob q _ _ _=>⟨ob.slots,k b ob q⟩,fun _ _ _ n _=>n,fun b ob q _=>⟨ob,k b ob q⟩,fun _ _ q=>q,fun _ _ _ q=>q,fun _ ps q=>⟨#[],by rw[q];simp⟩⟩
theorem Un.refl{fs:List Addr}:Un fs ex H H h h:=Un.kept fun _ _ q=>q
theorem Un.laid{fs:List Addr}(k:∀b u,h.get? b=some u->h'.get? b=some u)(hp:h.objs.size<=a)(hn:H a=none):Un fs ex H (upd H a o) h h' where
 keep:=fun b u q _ _ _=>k b u q
 slot:=fun b u q _ _ _=>⟨u.slots,k b u q⟩
 free:=fun b u q n _=>by rw[ae (zo (ze (Heap.lt_size q) hp))];exact n
 there:=fun b u q _=>⟨u,k b u q⟩
 tups:=fun b xs q=>by rw[ae (ay q hn)];exact q
 frzs:=fun b u xs q=>by rw[ae (ay q hn)];exact q
 tbls:=fun b ps q=>⟨#[],by rw[ae (ay q hn),q];simp⟩
theorem Un.write{fs:List Addr}(mu:Mut (H x))(he:e=x\/H e=some (.own x))(k:∀b u,b≠e->h.get? b=some u->h'.get? b=some u)(heo:∃u,h'.get? e=some u):Un fs ex H (upd H x o) h h':=by
 have hx:∀b,H b=none->b≠x:=fun b n z=>by subst z;rw[n]at mu;exact mu
 have hb:∀b,H b=none->b≠e:=fun b n z=>by
  subst z;rcases he with r|r
  . exact hx b n r
  . rw[n]at r;cases r
 have hi:∀b,Idl (H b)->b≠e:=fun b n z=>by
  rcases n with n|⟨xs,n⟩
  . exact hb b n z
  . subst z;rcases he with r|r
    . subst r;rw[n]at mu;exact mu
    . rw[n]at r;cases r
 have hm:∀b u,H b=some u->¬Mut (some u)->b≠x:=fun b u q nm z=>by subst z;rw[q]at mu;exact nm mu
 refine⟨fun b u q n _ _=>k b u (hi b n) q,fun b u q n _ _=>⟨u.slots,k b u (hb b n) q⟩,fun b u q n _=>by rw[ae (hx b n)];exact n,fun b u q _=>?_,
  fun b xs q=>by rw[ae (hm b _ q fun z=>z)];exact q,fun b u xs q=>by rw[ae (hm b _ q fun z=>z)];exact q,fun b ps q=>⟨#[],by rw[ae (hm b _ q fun z=>z),q];simp⟩⟩
 by_cases a:b=e
 . subst a;exact heo
 . exact⟨u,k b u a q⟩
noncomputable def trk(h:Heap)(H:Hp):List Addr:=(List.range h.objs.size).filter fun a=>(H a).isSome
noncomputable def hidT(h:Heap)(H:Hp):Heap:=PySem.W.hideAll h (trk h H)
theorem pi(h:Heap)(H:Hp):(hidT h H).objs.size=h.objs.size:=PySem.W.hideAll_size _ _
variable{g':Array GenState}{d':Drawn}{X:Cx}{t:TE}{v:V}{σ:List (Option V)}{pins:List (Addr×Obj)}{ch:List Addr}{N:List Str}{t' i j:Nat}{it:Addr}{A:Around}{e:Expr}{M:Model}{o:Obj}{s s':Shared}{x:Str}{u:Value}{E:Value->Shared->Prop}{Q:Unit->Shared->Prop}
theorem sW{b:Addr}(e:h.get? b=some o)(n:H b=none):(hidT h H).get? b=some o:=
 PySem.W.hideAll_get _ e fun hm=>by
  have q:(H b).isSome=true:=(zC.mp hm).2;rw[n]at q;simp at q
theorem nU{b:Addr}(e:(hidT h H).get? b=some o):h.get? b=some o/\H b=none:=by
 have e':h.get? b=some o:=PySem.W.of_hideAll (trk h H) e;refine⟨e',?_⟩
 cases q:H b with
 |none=>rfl
 |some x=>
  have hm:b∈trk h H:=zC.mpr ⟨zZ.mpr (Heap.lt_size e'),by simp[q]⟩
  have z:(hidT h H).get? b=none:=PySem.W.hideAll_none (trk h H) hm;rw[z]at e;cases e
structure Mod (K:PySem.W.Frag) (mg:Str->Option Value) (base:Heap):Prop where
 kin:K.In base
 glob:base.Ns mainGlobals mg
 blt:∃mb,base.Ns builtinsNs mb/\∀x:Str,x≠"__name__"->mb x=bootBuiltins x
 nolimit:base.NoLimit
structure Cx where
 prog:Program
 w:World
 K:PySem.W.Frag
 mg:Str->Option Value
 base:Heap
 A:Around
 N:List Str
 s₀:Shared
 H₀:Hp
 env:Env
 outer:List Env
 stack:List Env
 ex:List Addr
 fn:Str->Bool
 calm:Bool
 pn:List (Addr×Obj)
 xe:Value->Shared->Prop
def frs(l:List Env):List Addr:=l.filterMap (·.frame)
abbrev Cx.fs(X:Cx):List Addr:=frs X.outer
def Vis(sc:Scope)(x:Str):Prop:=sc.names.lookup x=some .local\/sc.names.lookup x=some .cell\/sc.names.lookup x=some .free
def Loc(sc:Scope)(x:Str):Prop:=sc.names.lookup x=some .local\/sc.names.lookup x=some .cell
def Look(env:Env)(h:Heap)(m:Str->Option Value)(x:Str)(u:Value):Prop:=
 (env.kindOf x=some .local/\m x=some u)\/((env.kindOf x=some .cell\/env.kindOf x=some .free)/\∃c,env.cells.lookup x=some c/\h.IsCell c (some u))
structure Cx.Ok (X:Cx):Prop where
 mod:Mod X.K X.mg X.base
 kind:X.env.scope.kind= .function
 glob:X.env.globals=mainGlobals
 blt:X.env.builtins=builtinsNs
 above:X.s₀.heap.objs.size<=X.env.locals
 inj:∀x y c,X.env.cells.lookup x=some c->X.env.cells.lookup y=some c->x=y
 has:∀x,(X.env.kindOf x=some .cell\/X.env.kindOf x=some .free)->∃c,X.env.cells.lookup x=some c
 cab:∀x c,X.fn x=true->X.env.cells.lookup x=some c->X.s₀.heap.objs.size<=c
 hd:X.calm=true->X.A.handled=none
 frames:X.A.frames=some X.stack
 stk:X.stack=X.outer\/(X.stack=X.env::X.outer/\X.env.frame=some X.env.locals)
 exf:∀b∈X.ex,b≠X.env.locals/\∀x c,X.env.cells.lookup x=some c->c≠b
 bs:∀b o,X.base.get? b=some o->X.s₀.heap.get? b=some o/\Idl (X.H₀ b)
 bsz:X.base.objs.size<=X.s₀.heap.objs.size
 noex:∀b o,X.base.get? b=some o->b∉X.ex
 exfs:∀b∈X.ex,b∉X.fs
 funs:X.s₀.heap.FunFrames X.base X.outer
 frf:∀b∈X.fs,X.H₀ b=none
structure Inv (X:Cx) (pins:List (Addr×Obj)) (σ:List (Option V)) (H:Hp) (s:Shared):Prop where
 ok:X.Ok
 os:s.os=X.s₀.os
 bare:AllBare s.gens
 base:Un X.fs X.ex X.H₀ H X.s₀.heap s.heap
 loc:∃m,s.heap.Ns X.env.locals m/\∀(i:Nat) (x:Str) (v:V),X.N[i]?=some x->σ[i]?=some (some v)->Vis X.env.scope x->∃u,RelV v u/\Look X.env s.heap m x u
 cell:∀x c,X.env.cells.lookup x=some c->∃v,s.heap.IsCell c v
 free:H X.env.locals=none
 freeC:∀x c,X.env.cells.lookup x=some c->H c=none
 pin:∀p∈X.pn++pins,s.heap.get? p.1=some p.2/\H p.1=none/\p.1≠X.env.locals/\p.1∉X.fs/\∀v,p.2.data≠ .cell v
 hok:HOk X.prog X.w H s.heap
 len:σ.length=X.N.length
theorem Cx.Ok.nofr(ok:X.Ok){b:Addr}(e:X.base.get? b=some o):b∉X.fs:=fun hb=>by
 have:=(ok.funs.mem hb).1;rw[e]at this;cases this
theorem Inv.bs(I:Inv X pins σ H s):∀b o,X.base.get? b=some o->s.heap.get? b=some o/\Idl (H b):=fun b o e=>
 ⟨I.base.keep b o (I.ok.bs b o e).1 (I.ok.bs b o e).2 (I.ok.nofr e) (I.ok.noex b o e),I.base.idl (I.ok.bs b o e).1 (I.ok.bs b o e).2 (I.ok.noex b o e)⟩
theorem Inv.bk(I:Inv X pins σ H s):∀b o,X.base.get? b=some o->s.heap.get? b=some o:=fun b o e=>(I.bs b o e).1
theorem Inv.mod(I:Inv X pins σ H s):Mod X.K X.mg X.base:=I.ok.mod
theorem Inv.kIn(I:Inv X pins σ H s):X.K.In s.heap:=I.ok.mod.kin.keeps I.bk
theorem Inv.nolimit(I:Inv X pins σ H s):s.heap.NoLimit:=I.ok.mod.nolimit.keeps I.bk
theorem Inv.fr(I:Inv X pins σ H s):∃m,Fr X.base X.env.locals s.heap m:=
 let ⟨m,hn,_⟩:=I.loc
 ⟨m,hn,I.bk,z7 I.ok.bsz I.ok.above⟩
theorem Inv.lt(I:Inv X pins σ H s):X.env.locals < s.heap.objs.size:=let ⟨_,hn,_⟩:=I.loc;hn.lt
theorem Inv.sz(I:Inv X pins σ H s):X.s₀.heap.objs.size<=s.heap.objs.size:=z7 I.ok.above (Nat.le_of_lt I.lt)
theorem Inv.nofs(I:Inv X pins σ H s)(h:s.heap.objs.size<=a):a∉X.fs:=fun hb=>by
 obtain⟨_,o,ho,_⟩:=I.ok.funs.mem hb;exact absurd (ze (Heap.lt_size ho) (z7 I.sz h)) (zN _)
theorem Inv.cne(I:Inv X pins σ H s):∀x c,X.env.cells.lookup x=some c->c≠X.env.locals:=fun x c e z=>by
 obtain⟨v,o,ho,hd⟩:=I.cell x c e;obtain⟨m,⟨o',es,ep,a,b,_⟩,_⟩:=I.loc;rw[z,a]at ho;cases ho;rw[b]at hd;cases hd
theorem Inv.funs(I:Inv X pins σ H s):s.heap.FunFrames X.base X.outer:=by
 have all:∀(l:List Env),(∀b∈frs l,b∈X.fs)->X.s₀.heap.FunFrames X.base l->s.heap.FunFrames X.base l:=by
  intro l
  induction l with
  |nil=>intro _ _;trivial
  |cons env r d=>
   intro hs hl;obtain⟨hk,⟨L,o,c,hn,ho,hd⟩,hr⟩:=hl;have a:L∈X.fs:=hs L (by unfold frs;rw[List.filterMap_cons,c];exact yT)
   obtain⟨sl,e⟩:=I.base.slot L o ho (I.ok.frf L a) a fun z=>I.ok.exfs L z a;exact⟨hk,⟨L,_,c,hn,e,hd⟩,d (fun b hb=>hs b (by unfold frs;rw[List.filterMap_cons,c];exact yU _ hb)) hr⟩
 exact all X.outer (fun _ hb=>hb) I.ok.funs
theorem Inv.stack(I:Inv X pins σ H s):s.heap.FunFrames X.base X.stack:=by
 rcases I.ok.stk with e|⟨e,a⟩
 . rw[e];exact I.funs
 . rw[e];obtain⟨m,hn,_⟩:=I.loc;refine .cons (by rw[I.ok.kind];decide) a hn ?_ I.funs
   exact Heap.get?_none_of_le (z7 I.ok.bsz I.ok.above)
theorem Inv.stkSub(I:Inv X pins σ H s):∀b∈frs X.stack,b∈X.env.locals::X.fs:=fun b hb=>by
 rcases I.ok.stk with e|⟨e,a⟩
 . rw[e]at hb;exact yU _ hb
 . rw[e]at hb;unfold frs at hb;rw[List.filterMap_cons,a]at hb;exact hb
theorem Inv.stkFree(I:Inv X pins σ H s):∀b∈frs X.stack,H b=none:=fun b hb=>by
 rcases yY.mp (I.stkSub b hb)with e|hb
 . rw[e];exact I.free
 . obtain⟨_,o,ho,_⟩:=I.ok.funs.mem hb;exact I.base.free b o ho (I.ok.frf b hb) fun z=>I.ok.exfs b z hb
theorem Inv.step(I:Inv X pins σ H s)(hch:∀b∈ch,(b∈X.ex\/X.s₀.heap.objs.size<=b)/\b≠X.env.locals/\(∀x c,X.env.cells.lookup x=some c->c≠b)/\∀p∈X.pn++pins,p.1≠b)(keep:∀b o,b≠X.env.locals->b∉X.fs->b∉ch->s.heap.get? b=some o->Idl (H b)->h'.get? b=some o)(slot:∀b o,b≠X.env.locals->b∈X.fs->b∉ch->s.heap.get? b=some o->H b=none->∃sl,h'.get? b=some {o with slots:=sl})(free:∀b o,b∉ch->s.heap.get? b=some o->H b=none->H' b=none)(there:∀b o,b∉ch->s.heap.get? b=some o->∃o',h'.get? b=some o')(tups:∀b xs,H b=some (.tup xs)->H' b=some (.tup xs))(frzs:∀b o u,H b=some (.frz o u)->H' b=some (.frz o u))(tbls:∀b ps,H b=some (.tbl ps)->∃more,H' b=some (.tbl (ps++more)))(ns:∀m,s.heap.Ns X.env.locals m->h'.Ns X.env.locals m)(hok:HOk X.prog X.w H' h')(hg:AllBare g'):
 Inv X pins σ H' {s with heap:=h',gens:=g',drawn:=d',toks:=t'}:=by
 have h:∀b o,X.s₀.heap.get? b=some o->b≠X.env.locals:=fun b o e=>zo (ze (Heap.lt_size e) I.ok.above)
 have g:∀b o,X.s₀.heap.get? b=some o->b∉X.ex->b∉ch:=fun b o e hx hb=>by
  rcases(hch b hb).1 with z|z
  . exact hx z
  . exact absurd (ze (Heap.lt_size e) z) (zN _)
 have f:∀x c,X.env.cells.lookup x=some c->∀v,s.heap.IsCell c v->h'.IsCell c v:=fun x c e v ⟨o,ho,hd⟩=>by
  have a:c∉ch:=fun z=>(hch c z).2.2.1 x c e rfl;by_cases hc:c∈X.fs
  . obtain⟨sl,q⟩:=slot c o (I.cne x c e) hc a ho (I.freeC x c e);exact Y3 _ q hd
  . exact Y3 o (keep c o (I.cne x c e) hc a ho (.inl (I.freeC x c e))) hd
 refine⟨I.ok,I.os,hg,⟨fun b o e n hb hx=>?_,fun b o e n hb hx=>?_,fun b o e n hx=>?_,fun b o e hx=>?_,fun b xs e=>tups b xs (I.base.tups b xs e),fun b o xs e=>frzs b o xs (I.base.frzs b o xs e),fun b ps e=>?_⟩,?_,fun x c e=>?_,?_,fun x c e=>?_,fun p hp=>?_,hok,I.len⟩
 . exact keep b o (h b o e) hb (g b o e hx) (I.base.keep b o e n hb hx) (I.base.idl e n hx)
 . obtain⟨sl,e1⟩:=I.base.slot b o e n hb hx;obtain⟨t,j⟩:=slot b _ (h b o e) hb (g b o e hx) e1 (I.base.free b o e n hx);exact⟨t,j⟩
 . obtain⟨o',e1⟩:=I.base.there b o e hx;exact free b o' (g b o e hx) e1 (I.base.free b o e n hx)
 . obtain⟨o',e1⟩:=I.base.there b o e hx;exact there b o' (g b o e hx) e1
 . obtain⟨m1,e1⟩:=I.base.tbls b ps e;obtain⟨m2,j⟩:=tbls b _ e1;exact⟨m1++m2,by rw[j,Array.append_assoc]⟩
 . obtain⟨m,hn,hl⟩:=I.loc;refine Y3 m (ns m hn) (fun i x v e1 j e3=>?_);obtain⟨u,r,l⟩:=hl i x v e1 j e3;refine Y3 u r ?_;rcases l with l|⟨k,c,e,z⟩
   . exact .inl l
   . exact .inr ⟨k,Y3 c e (f x c e _ z)⟩
 . obtain⟨v,z⟩:=I.cell x c e;exact⟨v,f x c e v z⟩
 . obtain⟨m,⟨o,_,_,ho,_⟩,_⟩:=I.loc;exact free _ o (fun z=>(hch _ z).2.1 rfl) ho I.free
 . obtain⟨v,o,ho,hd⟩:=I.cell x c e;exact free c o (fun z=>(hch c z).2.2.1 x c e rfl) ho (I.freeC x c e)
 . obtain⟨e,n,ne,y,d⟩:=I.pin p hp;have a:p.1∉ch:=fun z=>(hch p.1 z).2.2.2 p hp rfl;exact⟨keep p.1 p.2 ne y a e (.inl n),free p.1 p.2 a e n,ne,y,d⟩
theorem Inv.un(I:Inv X pins σ H s)(u:Un X.fs [] H H' s.heap h')(hok:HOk X.prog X.w H' h'):Inv X pins σ H' {s with heap:=h',toks:=t'}:=by
 obtain⟨m,⟨o,es,ep,ho,r⟩,_⟩:=id I.loc;obtain⟨sl,f⟩:=u.any ho I.free (by simp)
 exact I.step (g':=s.gens) (d':=s.drawn) (ch:= []) (fun _ z=>nomatch z) (fun b o _ hb _ e n=>u.keep b o e n hb (by simp)) (fun b o _ hb _ e n=>u.slot b o e n hb (by simp)) (fun b o _ e n=>u.free b o e n (by simp)) (fun b o _ e=>u.there b o e (by simp)) u.tups u.frzs u.tbls (fun m' hm=>by
  obtain⟨o',d,c,a,r'⟩:=hm;rw[ho]at a;cases a
  exact⟨_,U3 d c f r'⟩) hok I.bare
theorem Inv.call(I:Inv X pins σ H s)(u:Un (frs X.stack) ch H H' s.heap h')(hok:HOk X.prog X.w H' h')(hg:AllBare g')(hch:∀b∈ch,(b∈X.ex\/X.s₀.heap.objs.size<=b)/\b≠X.env.locals/\(∀x c,X.env.cells.lookup x=some c->c≠b)/\∀p∈X.pn++pins,p.1≠b):
 Inv X pins σ H' {s with heap:=h',gens:=g',drawn:=d',toks:=t'}:=by
 obtain⟨m,⟨o,es,ep,ho,r⟩,_⟩:=id I.loc;obtain⟨sl,d⟩:=u.any ho I.free fun z=>(hch _ z).2.1 rfl
 exact I.step (ch:=ch) hch (fun b o d hb hc e n=>u.keep b o e n (fun z=>(yY.mp (I.stkSub b z)).elim d hb) hc) (fun b o _ _ hc e n=>u.any e n hc) (fun b o hc e n=>u.free b o e n hc) (fun b o hc e=>u.there b o e hc) u.tups u.frzs u.tbls (fun m' hm=>by
  obtain⟨o',g,f,a,r'⟩:=hm;rw[ho]at a;cases a
  exact⟨_,g,f,d,r'⟩) hok hg
theorem Inv.turned(I:Inv X pins σ H s)(k:∀b o,b≠it->s.heap.get? b=some o->h'.get? b=some o)(hn:H it=none)(hL:it≠X.env.locals)(h1:it∈X.ex\/X.s₀.heap.objs.size<=it)(h2:∀x c,X.env.cells.lookup x=some c->c≠it)(h3:∀p∈X.pn++pins,p.1≠it):Inv X pins σ H {s with heap:=h',toks:=t'}:=by
 have a:∀b u,H b=some u->b≠it:=fun b u e z=>by rw[z,hn]at e;cases e
 refine I.step (g':=s.gens) (d':=s.drawn) (ch:= [it]) (fun b hb=>?_) (fun b o _ _ hc e _=>k b o (fun z=>hc (by simp[z])) e) (fun b o _ _ hc e _=>⟨o.slots,k b o (fun z=>hc (by simp[z])) e⟩) (fun _ _ _ _ n=>n)
  (fun b o hc e=>⟨o,k b o (fun z=>hc (by simp[z])) e⟩) (fun _ _ e=>e) (fun _ _ _ e=>e) (fun b ps e=>⟨#[],by rw[e];simp⟩) (fun m hm=>?_) (fun b u e=>?_) I.bare
 . have e:b=it:=by simpa using hb
   subst e;exact⟨h1,hL,h2,h3⟩
 . obtain⟨o,es,ep,ho,r⟩:=hm;exact⟨o,U3 es ep (k _ o (Ne.symm hL) ho) r⟩
 . refine(I.hok b u e).stay (fun c v hc q=>k c v ?_ q) (fun _ q=>q) fun _ _ q=>q;rcases hc with z|z
   . rw[z];exact a b u e
   . exact a c _ z
theorem Inv.tok(I:Inv X pins σ H s)(t:Nat):Inv X pins σ H {s with toks:=t}:=I.un (h':=s.heap) (t':=t) Un.refl I.hok
theorem Inv.kept{t':Nat}(I:Inv X pins σ H s)(k:∀b u,s.heap.get? b=some u->h'.get? b=some u):Inv X pins σ H {s with heap:=h',toks:=t'}:=I.un (Un.kept k) (I.hok.kept k)
theorem Inv.laid{a:Addr}{o:HO}{t':Nat}(I:Inv X pins σ H s)(k:∀b u,s.heap.get? b=some u->h'.get? b=some u)(hp:s.heap.objs.size<=a)(new:ObjOk X.prog X.w (upd H a o) h' a o):
 Inv X pins σ (upd H a o) {s with heap:=h',toks:=t'}:=I.un (Un.laid k hp (I.hok.fresh hp)) (I.hok.laid k hp new)
theorem Inv.write{x e:Addr}{o:HO}{t':Nat}(I:Inv X pins σ H s)(mu:Mut (H x))(he:e=x\/H e=some (.own x))(k:∀b u,b≠e->s.heap.get? b=some u->h'.get? b=some u)(heo:∃u,h'.get? e=some u)(new:ObjOk X.prog X.w (upd H x o) h' x o):Inv X pins σ (upd H x o) {s with heap:=h',toks:=t'}:=I.un (Un.write mu he k heo) (I.hok.write mu he k heo new)
theorem Inv.weak{σ':List (Option V)}(I:Inv X pins σ H s)(hl:σ'.length=σ.length)(w:∀(i:Nat) v,σ'[i]?=some (some v)->σ[i]?=some (some v)):Inv X pins σ' H s:=
 ⟨I.ok,I.os,I.bare,I.base,let ⟨m,hn,hl'⟩:=I.loc;⟨m,hn,fun i x v e1 a b=>hl' i x v e1 (w i v a) b⟩,I.cell,I.free,I.freeC,I.pin,I.hok,hl.trans I.len⟩
theorem Inv.pins_of{pins':List (Addr×Obj)}(I:Inv X pins σ H s)(h:∀p∈pins',s.heap.get? p.1=some p.2/\H p.1=none/\p.1≠X.env.locals/\p.1∉X.fs/\∀v,p.2.data≠ .cell v):Inv X pins' σ H s:=
 ⟨I.ok,I.os,I.bare,I.base,I.loc,I.cell,I.free,I.freeC,fun p hp=>(zw.mp hp).elim (fun z=>I.pin p (Af _ z)) (h p),I.hok,I.len⟩
theorem kq(hN:N.Nodup)(a:N[i]?=some x)(b:N[j]?=some x):i=j:=by
 obtain⟨h1,e1⟩:=yZ.mp a;obtain⟨h2,c⟩:=yZ.mp b;exact(List.getElem_inj hN).mp (e1.trans c.symm)
theorem iG(I:Inv X pins σ H s)(hN:X.N.Nodup)(hi:X.N[i]?=some x)(hx:Loc X.env.scope x)(r:RelV v u)(h:∀s',Inv X pins (σ.set i (some v)) H s'->(∃a,Heap.SameBut a s.heap s'.heap/\(a=X.env.locals\/X.env.cells.lookup x=some a))->Q () s')(hf:X.fn x=true\/X.env.scope.names.lookup x=some .local:=by first|exact .inl rfl|exact .inr rfl|assumption):wpAny M A (storeName X.env x u) Q E s:=by
 obtain⟨m,hn,hl⟩:=id I.loc;have aT:(X.env.scope.kind== .class ||(X.env.scope.kind== .module&&X.env.locals !=X.env.globals))=false:=by rw[I.ok.kind];rfl
 have ao:i < σ.length:=by rw[I.len];exact(yZ.mp hi).1
 have cne:=I.cne
 have f:∀ {a:Addr} {h':Heap},(∃o,s.heap.get? a=some o/\H a=none)->Heap.SameBut a s.heap h'->HOk X.prog X.w H h':=fun{a h'} ha hs b ob e=>by
  obtain⟨_,_,g⟩:=ha;refine(I.hok b ob e).stay (fun c w' hc q=>(hs.2 c ?_).trans q) (fun _ q=>q) fun _ _ q=>q;rintro rfl;rcases hc with rfl|hc
  . rw[g]at e;cases e
  . rw[g]at hc;cases hc
 rcases hx with hk|hk
 . refine wpAny_storeName_local hk hn (fun h' a0 hs=>?_) aT;obtain⟨oL,_,_,a1,_⟩:=id hn;refine h _ ⟨I.ok,I.os,I.bare,⟨fun b o e n hb hx=>?_,fun b o e n hb hx=>?_,I.base.free,fun b o e hx=>?_,I.base.tups,I.base.frzs,I.base.tbls⟩,(Y3 _ a0 (fun j y v' e1 l e3=>?_)),fun y c e=>?_,I.free,I.freeC,fun p hp=>?_,f (Y3 oL a1 I.free) hs,by simpa using I.len⟩ (Y3 _ hs (.inl rfl))
   . exact(hs.2 b (zo (ze (Heap.lt_size e) I.ok.above))).trans (I.base.keep b o e n hb hx)
   . obtain⟨sl,e1⟩:=I.base.slot b o e n hb hx;exact⟨sl,(hs.2 b (zo (ze (Heap.lt_size e) I.ok.above))).trans e1⟩
   . obtain⟨o',e1⟩:=I.base.there b o e hx;exact⟨o',(hs.2 b (zo (ze (Heap.lt_size e) I.ok.above))).trans e1⟩
   . by_cases t:j=i
     . subst t;rw[hi]at e1;cases e1;rw[List.getElem?_set_self ao]at l;cases l;exact Y3 u r (.inl ⟨hk,by simp⟩)
     . rw[List.getElem?_set_ne (Ne.symm t)]at l;obtain⟨u',r',q⟩:=hl j y v' e1 l e3;refine Y3 u' r' ?_;rcases q with⟨k,e⟩|⟨k,c,e,z⟩
       . refine .inl ⟨k,?_⟩;have:y≠x:=fun e=>t (kq hN e1 (e▸hi));simp[this,e]
       . exact .inr ⟨k,Y3 c e (z.sameBut hs (cne y c e))⟩
   . obtain⟨w',z⟩:=I.cell y c e;exact⟨w',z.sameBut hs (cne y c e)⟩
   . obtain⟨e,n,ne,nf,d⟩:=I.pin p hp;exact⟨(hs.2 p.1 ne).trans e,n,ne,nf,d⟩
 . have ai:X.fn x=true:=by
    rcases hf with z|z
    . exact z
    . rw[z]at hk;cases hk
   obtain⟨c,hc⟩:=I.ok.has x (.inl hk);obtain⟨w',z⟩:=I.cell x c hc;refine wpAny_storeName_cell I.ok.kind hk hc z (fun h' aA hs=>?_);obtain⟨oc,au,aC⟩:=id z;refine h {s with heap:=h'} ⟨I.ok,I.os,I.bare,⟨fun b o e n hb hx=>?_,fun b o e n hb hx=>?_,I.base.free,fun b o e hx=>?_,I.base.tups,I.base.frzs,I.base.tbls⟩,(Y3 m (hn.sameBut hs (Ne.symm (cne x c hc))) (fun j y v' e1 l e3=>?_)),fun y c' e=>?_,I.free,I.freeC,fun p hp=>?_,f (Y3 oc au (I.freeC x c hc)) hs,by simpa using I.len⟩ (Y3 c hs (.inr hc))
   . exact(hs.2 b (zo (ze (Heap.lt_size e) (I.ok.cab x c ai hc)))).trans (I.base.keep b o e n hb hx)
   . obtain⟨sl,e1⟩:=I.base.slot b o e n hb hx;exact⟨sl,(hs.2 b (zo (ze (Heap.lt_size e) (I.ok.cab x c ai hc)))).trans e1⟩
   . obtain⟨o',e1⟩:=I.base.there b o e hx;exact⟨o',(hs.2 b (zo (ze (Heap.lt_size e) (I.ok.cab x c ai hc)))).trans e1⟩
   . by_cases t:j=i
     . subst t;rw[hi]at e1;cases e1;rw[List.getElem?_set_self ao]at l;cases l;exact Y3 u r (.inr ⟨.inl hk,Y3 c hc aA⟩)
     . rw[List.getElem?_set_ne (Ne.symm t)]at l;obtain⟨u',r',q⟩:=hl j y v' e1 l e3;refine Y3 u' r' ?_;rcases q with q|⟨k,c',e,z'⟩
       . exact .inl q
       . refine .inr ⟨k,Y3 c' e (z'.sameBut hs ?_)⟩;rintro rfl;exact t (kq hN e1 (I.ok.inj _ _ _ e hc▸hi))
   . by_cases aB:c'=c
     . subst aB;exact⟨_,aA⟩
     . obtain⟨w2,z2⟩:=I.cell y c' e;exact⟨w2,z2.sameBut hs aB⟩
   . obtain⟨e,n,ne,nf,d⟩:=I.pin p hp;refine⟨(hs.2 p.1 ?_).trans e,n,ne,nf,d⟩;intro q;rw[q,au]at e;have q':oc=p.2:=z9 e;exact d w' (by rw[<-q'];exact aC)
theorem eU(I:Inv X pins σ H s)(hN:X.N.Nodup)(hi:X.N[i]?=some x)(hx:Loc X.env.scope x)(r:RelV v u)(h:∀s',Inv X pins (σ.set i (some v)) H s'->Q () s')(hf:X.fn x=true\/X.env.scope.names.lookup x=some .local:=by first|exact .inl rfl|exact .inr rfl|assumption):wpAny M A (storeName X.env x u) Q E s:=
 iG I hN hi hx r (fun s' a _=>h s' a) hf
theorem Inv.call'(I:Inv X pins σ H s)(ho:s'.os=s.os)(u:Un (frs X.stack) ch H H' s.heap s'.heap)(hok:HOk X.prog X.w H' s'.heap)(hg:AllBare s'.gens)(hch:∀b∈ch,(b∈X.ex\/X.s₀.heap.objs.size<=b)/\b≠X.env.locals/\(∀x c,X.env.cells.lookup x=some c->c≠b)/\∀p∈X.pn++pins,p.1≠b):Inv X pins σ H' s':=by
 obtain⟨h',g',d',t',o'⟩:=s';have e:o'=s.os:=ho;subst e;exact I.call (g':=g') (t':=t') (d':=d') u hok hg hch
abbrev XK:=Value->Option Addr->Hp->Prop
abbrev St:=List (Option V)
abbrev VK:=V->Hp->Prop
abbrev TE:=St->Hp->VK->Prop
abbrev TT:=St->Hp->(Bool->Hp->Prop)->Prop
abbrev TA:=St->Hp->(List V->Hp->Prop)->Prop
structure Ends where
 nx:St->Hp->Prop
 rt:VK
 bk:St->Hp->Prop:=fun _ _=>False
 ct:St->Hp->Prop:=fun _ _=>False
abbrev TS:=Ends->St->Hp->Prop
def EP(X:Cx)(pins:List (Addr×Obj))(σ:St)(Q:VK)(u:Value)(s':Shared):Prop:=∃v H',Inv X pins σ H' s'/\RelV v u/\Q v H'
def TP(X:Cx)(pins:List (Addr×Obj))(σ:St)(Q:Bool->Hp->Prop)(b:Bool)(s':Shared):Prop:=∃H',Inv X pins σ H' s'/\Q b H'
def AP(X:Cx)(pins:List (Addr×Obj))(σ:St)(Q:List V->Hp->Prop)(us:List Value)(s':Shared):Prop:=∃vs H',Inv X pins σ H' s'/\Vals vs us/\Q vs H'
def SP(X:Cx)(pins:List (Addr×Obj))(D:Ends)(f:Flow)(s':Shared):Prop:=
 match f with
 | .next=>∃σ' H',Inv X pins σ' H' s'/\D.nx σ' H'
 | .brk=>∃σ' H',Inv X pins σ' H' s'/\D.bk σ' H'
 | .cont=>∃σ' H',Inv X pins σ' H' s'/\D.ct σ' H'
 | .ret u=>∃v σ' H',Inv X pins σ' H' s'/\RelV v u/\D.rt v H'
def PE(X:Cx)(e:Expr)(t:TE):Prop:=
 ∀(pins:List (Addr×Obj)) (s:Shared) (σ:St) (H:Hp) (Q:VK),Inv X pins σ H s->t σ H Q->wpAny (model X.prog X.w) X.A (eval e X.env) (EP X pins σ Q) X.xe s
def PT(X:Cx)(e:Expr)(t:TT):Prop:=
 ∀(pins:List (Addr×Obj)) (s:Shared) (σ:St) (H:Hp) (Q:Bool->Hp->Prop),Inv X pins σ H s->t σ H Q->wpAny (model X.prog X.w) X.A (isTrue e X.env (eval e X.env)) (TP X pins σ Q) X.xe s
def PW(X:Cx)(e:Expr)(t:TT):Prop:=
 ∀(whole:Sem Value) (pins:List (Addr×Obj)) (s:Shared) (σ:St) (H:Hp) (Q:Bool->Hp->Prop),Inv X pins σ H s->t σ H Q->wpAny (model X.prog X.w) X.A (isTrue e X.env whole) (TP X pins σ Q) X.xe s
theorem PW.pt{t:TT}(h:PW X e t):PT X e t:=h _
def PA(X:Cx)(es:List Expr)(t:TA):Prop:=
 ∀(pos:Pos) (pins:List (Addr×Obj)) (s:Shared) (σ:St) (H:Hp) (Q:List V->Hp->Prop),Inv X pins σ H s->t σ H Q->wpAny (model X.prog X.w) X.A (spliced (backTo pos (starEach es X.env))) (AP X pins σ Q) X.xe s
def PS(X:Cx)(st:Stmt)(t:TS):Prop:=
 ∀(pins:List (Addr×Obj)) (s:Shared) (σ:St) (H:Hp) (D:Ends),Inv X pins σ H s->t D σ H->wpAny (model X.prog X.w) X.A (exec st X.env) (SP X pins D) X.xe s
def PSs(X:Cx)(st:List Stmt)(t:TS):Prop:=
 ∀(pins:List (Addr×Obj)) (s:Shared) (σ:St) (H:Hp) (D:Ends),Inv X pins σ H s->t D σ H->wpAny (model X.prog X.w) X.A (execs st X.env) (SP X pins D) X.xe s
theorem thn{t:Sem α}{Q Q':α->Shared->Prop}(h:wpAny M A t Q E s)(hQ:∀a s,Q a s->Q' a s):wpAny M A t Q' E s:=wpAny_mono h hQ fun _ _ x=>x
def tVar(i:Nat):TE:=fun σ H Q=>∃v,σ[i]?=some (some v)/\Q v H
def tC(v:V):TE:=fun _ H Q=>Q v H
theorem rS{pos:Pos}(hN:X.N[i]?=some x)(hv:Vis X.env.scope x)(hd:(x==("__debug__":Str))=false:=by decide)(hcd:(x==("__classdict__":Str))=false:=by decide):PE X (.Name x pos) (tVar i):=by
 intro pins s σ H Q I h;obtain⟨v,e,h⟩:=h;obtain⟨m,hn,hl⟩:=I.loc;obtain⟨u,r,l⟩:=hl i x v hN e hv;have fin:EP X pins σ Q u s:=Y5 v H I r h;rcases l with⟨hk,hm⟩|⟨hk,c,hc,a⟩
 . exact wpAny_Name (wpAny_loadName_local I.ok.kind hk hn hm fin) hd
 . rcases hk with hk|hk
   . exact wpAny_Name (wpAny_loadName_cell I.ok.kind hk hc a fin) hd
   . exact wpAny_Name (wpAny_loadName_free I.ok.kind hk hc a fin hcd) hd
theorem ad{i j pos}:PE X (.Constant (.int i) j pos) (tC (.int i)):=fun _ _ _ H _ I h=>wpAny_Constant_int ⟨.int i,H,I.tok _,⟨_,rfl⟩,h⟩
theorem cV{b j pos}:PE X (.Constant (.bool b) j pos) (tC (.bl b)):=fun _ _ _ H _ I h=>Constant_bool ⟨.bl b,H,I,rfl,h⟩
theorem db{j pos}:PE X (.Constant .none j pos) (tC .non):=fun _ _ _ H _ I h=>Constant_none ⟨.non,H,I,rfl,h⟩
theorem eh{x j pos}:PE X (.Constant (.str x) j pos) (tC (.str x)):=fun _ _ _ H _ I h=>Calls.Constant_str ⟨.str x,H,I.tok _,⟨_,rfl⟩,h⟩
def Gl(X:Cx)(x:Str):Prop:=X.env.kindOf x=some .globalImplicit
variable{op:CmpOp}{σ:St}{Q:Value->Shared->Prop}
theorem nZ{pos:Pos}(I:Inv X pins σ H s)(hg:Gl X x)(hm:X.mg x=some u)(h:Q u s)(hd:(x==("__debug__":Str))=false:=by decide):wpAny (model X.prog X.w) X.A (eval (.Name x pos) X.env) Q E s:=
 Calls.Name_function_global I.ok.kind hg (Calls.loadGlobal_global (by rw[I.ok.glob];exact I.mod.glob.keeps I.bk) hm h) hd
theorem dB{pos:Pos}(I:Inv X pins σ H s)(hg:Gl X x)(hm:X.mg x=none)(hv:bootBuiltins x=some u)(h:Q u s)(hn:x≠"__name__":=by decide)(hd:(x==("__debug__":Str))=false:=by decide):wpAny (model X.prog X.w) X.A (eval (.Name x pos) X.env) Q E s:=by
 obtain⟨a,h1,h2⟩:=I.mod.blt;exact Calls.Name_function_global I.ok.kind hg (Calls.loadGlobal_builtin (by rw[I.ok.glob];exact I.mod.glob.keeps I.bk) hm (by rw[I.ok.blt];exact h1.keeps I.bk) ((h2 x hn).trans hv) h) hd
theorem uy{pos:Pos}(hg:Gl X x)(hm:X.mg x=none)(hv:bootBuiltins x=some u)(r:RelV v u)(hn:x≠"__name__":=by decide)(hd:(x==("__debug__":Str))=false:=by decide):PE X (.Name x pos) (tC v):=
 fun _ _ _ H _ I h=>dB I hg hm hv ⟨v,H,I,r,h⟩ hn hd
def PC(X:Cx)(op:CmpOp)(a b:Expr)(t:TE):Prop:=
 ∀(pins:List (Addr×Obj)) (s:Shared) (σ:St) (H:Hp) (Q:VK),Inv X pins σ H s->t σ H Q->
  wpAny (model X.prog X.w) X.A (eval a X.env) (fun v s₁=>wpAny (model X.prog X.w) X.A (eval b X.env) (fun u s₂=>wpAny (model X.prog X.w) X.A (compareOp op v u) (EP X pins σ Q) X.xe s₂) X.xe s₁) X.xe s
theorem sm(b:Expr)(h:op≠ .In)(h2:op≠ .NotIn):behindInMarks op b=false:=by
 have e1:(op==CmpOp.In)=false:=by cases op<;>first|rfl|exact absurd rfl h
 have a:(op==CmpOp.NotIn)=false:=by cases op<;>first|rfl|exact absurd rfl h2
 cases b<;>simp[behindInMarks,e1,a]
def xW(ta:TE):TE:=fun σ H Q=>ta σ H fun x H1=>Q (.bl (!decide (x= .non))) H1
variable{ta:TE}{tA tB':TT}{xs:List V}{rest:List Expr}{a:Expr}{v:Value}{K:PySem.W.Frag}
theorem RelV.none_iff{x:V}(r:RelV x v):(v==Value.none)=decide (x= .non):=by
 cases x with
 |non=>cases r;rfl
 |bl _=>cases r;rfl
 |int _=>obtain⟨t,rfl⟩:=r;rfl
 |str _=>obtain⟨t,rfl⟩:=r;rfl
 |byt _=>obtain⟨t,rfl⟩:=r;rfl
 |flt _=>obtain⟨t,rfl⟩:=r;rfl
 |ref _=>cases r;rfl
 |ty _=>cases r;rfl
theorem nQ{j pos'}(ha:PE X a ta):PC X .IsNot a (.Constant .none j pos') (xW ta):=by
 intro pins s σ H Q I h;refine thn (ha pins s σ H _ I h) fun v s1 ⟨x,H1,b,r1,c⟩=>?_;exact Constant_none (isnot_none_gen ⟨.bl _,H1,b,by rw[r1.none_iff];rfl,c⟩)
def tB(t:TE):TT:=fun σ H Q=>t σ H fun x H1=>∃c,x= .bl c/\Q c H1
theorem rL{b:Expr}{pos:Pos}(h:PC X op a b t)(h1:behindInMarks op b=false:=by first|exact sm _ (by decide) (by decide)|rfl):PT X (.Compare a [op] [b] pos) (tB t):=by
 intro pins s σ H Q I hw;refine wpAny_isTrue_Compare1 (thn (h pins s σ H _ I hw) fun v s1 h1=>thn h1 fun u g h2=>thn h2 fun c s3 ⟨x,H1,f,r1,e⟩=>?_) h1;obtain⟨d,rfl,q⟩:=e;cases r1;exact wpAny_truthy_bool ⟨H1,f,q⟩
theorem cC(h:PE X e t)(he:∀whole,isTrue e X.env whole=(do let v<-whole;standAt e.pos;holding [v] (truthy v)):=by intro _;rfl):PT X e (tB t):=by
 intro pins s σ H Q I hw;refine isTrue_plain (thn (h pins s σ H _ I hw) fun v s1 ⟨x,H1,a,r1,b⟩=>?_) (he _);obtain⟨d,rfl,q⟩:=b;cases r1;exact wpAny_truthy_bool ⟨H1,a,q⟩
def tAnd(t u:TT):TT:=fun σ H Q=>t σ H fun c H1=>if c=true then u σ H1 Q else Q false H1
def tOr(t u:TT):TT:=fun σ H Q=>t σ H fun c H1=>if c=true then Q true H1 else u σ H1 Q
def tNot(t:TT):TT:=fun σ H Q=>t σ H fun c H1=>Q (!c) H1
theorem eX{pos:Pos}(ha:PT X a tA):PW X (.BoolOp .And [a] pos) tA:=by
 intro wh pins s σ H Q I h;refine isTrue_and (thn (ha pins s σ H Q I h) fun c s1 e=>?_)
 cases c with
 |true=>exact isTrue_and_nil e
 |false=>exact e
theorem dY{pos:Pos}(ha:PT X a tA):PW X (.BoolOp .Or [a] pos) tA:=by
 intro wh pins s σ H Q I h;refine isTrue_or (thn (ha pins s σ H Q I h) fun c s1 e=>?_)
 cases c with
 |false=>exact isTrue_or_nil e
 |true=>exact e
theorem fz{b:Expr}{pos:Pos}(ha:PT X a tA)(hb:PW X (.BoolOp .And (b::rest) pos) tB'):PW X (.BoolOp .And (a::b::rest) pos) (tAnd tA tB'):=by
 intro wh pins s σ H Q I h;refine isTrue_and (thn (ha pins s σ H _ I h) fun c s1 ⟨H1,d,e⟩=>?_)
 cases c with
 |true=>exact hb wh pins s1 σ H1 Q d e
 |false=>exact⟨H1,d,e⟩
theorem eW{b:Expr}{pos:Pos}(ha:PT X a tA)(hb:PW X (.BoolOp .Or (b::rest) pos) tB'):PW X (.BoolOp .Or (a::b::rest) pos) (tOr tA tB'):=by
 intro wh pins s σ H Q I h;refine isTrue_or (thn (ha pins s σ H _ I h) fun c s1 ⟨H1,d,e⟩=>?_)
 cases c with
 |true=>exact⟨H1,d,e⟩
 |false=>exact hb wh pins s1 σ H1 Q d e
theorem jo{pos:Pos}(ha:PT X a tA):PT X (.UnaryOp .Not a pos) (tNot tA):=by
 intro pins s σ H Q I h;exact isTrue_not (ha pins s σ H (fun c H1=>Q (!c) H1) I h)
def xV(ta:TE):TE:=fun σ H Q=>ta σ H fun x H1=>∃c,x= .bl c/\Q (.bl (!c)) H1
theorem w9{pos:Pos}(ha:PE X a ta):PE X (.UnaryOp .Not a pos) (xV ta):=by
 intro pins s σ H Q I h;refine UnaryOp_ (thn (ha pins s σ H _ I h) fun v s1 ⟨x,H1,d,r1,b⟩=>?_);obtain⟨c,rfl,b⟩:=b;cases r1;exact not_of (wpAny_truthy_bool ⟨.bl (!c),H1,d,rfl,b⟩)
def tIf(t:TT)(ta tb:TE):TE:=fun σ H Q=>t σ H fun c H1=>if c=true then ta σ H1 Q else tb σ H1 Q
theorem cS{b:Expr}{tb:TE}{pos:Pos}{c:Expr}(hc:PT X c tA)(ha:PE X a ta)(hb:PE X b tb):PE X (.IfExp c a b pos) (tIf tA ta tb):=by
 intro pins s σ H Q I h;refine wpAny_IfExp (thn (hc pins s σ H _ I h) fun d s1 ⟨H1,e,f⟩=>?_)
 cases d with
 |true=>exact ha pins s1 σ H1 Q e f
 |false=>exact hb pins s1 σ H1 Q e f
def SqL(K:PySem.W.Frag)(H:Hp)(a:Addr)(xs:List V):Prop:=
 Rd H a (.lst xs)\/
  ∃(o:Obj) (its:Array Value) (n:Nat),K.lookup a=some o/\o.cls= .type "list"/\o.dict=none/\o.data= .seq its n/\its.size<=sizeLine/\Vals xs its.toList
def SqT(K:PySem.W.Frag)(H:Hp)(a:Addr)(xs:List V):Prop:=
 Rd H a (.tup xs)\/
  ∃(o:Obj) (its:Array Value) (n:Nat),K.lookup a=some o/\o.cls= .type "tuple"/\o.data= .seq its n/\its.size<=sizeLine/\Vals xs its.toList
noncomputable def absV:Value->Option V
 | .none=>some .non
 | .bool b=>some (.bl b)
 | .int i _=>some (.int i)
 | .str x _=>some (.str x)
 | .bytes b _=>some (.byt b)
 | .float b _=>some (.flt b)
 | .ref a=>some (.ref a)
 | .type n=>some (.ty n)
 |_=>none
theorem RelV.abs{x:V}(r:RelV x u):absV u=some x:=by
 cases x with
 |non=>cases r;rfl
 |bl _=>cases r;rfl
 |int _=>obtain⟨t,rfl⟩:=r;rfl
 |str _=>obtain⟨t,rfl⟩:=r;rfl
 |byt _=>obtain⟨t,rfl⟩:=r;rfl
 |flt _=>obtain⟨t,rfl⟩:=r;rfl
 |ref _=>cases r;rfl
 |ty _=>cases r;rfl
theorem RelV.inj{x y:V}{u:Value}(r:RelV x u)(q:RelV y u):x=y:=z9 (r.abs.symm.trans q.abs)
theorem Vals.inj:∀ {xs ys:List V} {us:List Value},Vals xs us->Vals ys us->xs=ys
 |_,_,_, .nil, .nil=>rfl
 |_,_,_, .cons r t, .cons r' t'=>by rw[r.inj r',Vals.inj t t']
variable{te:TE}{t:TS}{tc:TT}{ys:List V}{a:Addr}
theorem SqL.of(h:H a=some (.lst xs)):SqL K H a xs:= .inl (.inl h)
theorem SqT.of(h:H a=some (.tup xs)):SqT K H a xs:= .inl (.inl h)
theorem Inv.list(I:Inv X pins σ H s)(h:SqL X.K H a xs):∃its:List Value,Vals xs its/\PlainL s.heap a its.toArray/\xs.length<=sizeLine:=by
 rcases h with h|⟨o,its,n,hk,hc,hd,hs,hz,r⟩
 . obtain⟨z,its,n,r,e⟩:=h.ok I.hok;exact Y8 its r (Y7 _ n e rfl rfl rfl) z
 . refine Y8 its.toList r (Y7 o n (I.kIn a o hk) hc hd (by simpa using hs)) ?_
   have e:=r.length;simp only[zX]at e;omega
theorem Inv.tuple(I:Inv X pins σ H s)(h:SqT X.K H a xs):∃its:List Value,Vals xs its/\IsTup s.heap a its.toArray/\xs.length<=sizeLine:=by
 rcases h with h|⟨o,its,n,hk,hc,hs,hz,r⟩
 . obtain⟨z,its,r,p⟩:=h.ok I.hok;exact⟨its,r,p,z⟩
 . refine⟨its.toList,r,⟨o,I.kIn a o hk,hc,n,by simpa using hs⟩,?_⟩
   have e:=r.length;simp only[zX]at e;omega
theorem Inv.list_inj(I:Inv X pins σ H s)(h:SqL X.K H a xs)(h':SqL X.K H a ys):xs=ys:=by
 obtain⟨its,r,⟨o,n,e,_,_,d⟩,_⟩:=I.list h;obtain⟨its',r',⟨o',n',e',_,_,d'⟩,_⟩:=I.list h';rw[e]at e';cases e';rw[d]at d';injection d' with d1 _;have:its=its':=by simpa using congrArg Array.toList d1
 subst this;exact r.inj r'
theorem Inv.tuple_inj(I:Inv X pins σ H s)(h:SqT X.K H a xs)(h':SqT X.K H a ys):xs=ys:=by
 obtain⟨its,r,⟨o,e,_,n,d⟩,_⟩:=I.tuple h;obtain⟨its',r',⟨o',e',_,n',d'⟩,_⟩:=I.tuple h';rw[e]at e';cases e';rw[d]at d';injection d' with d1 _;have:its=its':=by simpa using congrArg Array.toList d1
 subst this;exact r.inj r'
abbrev Cx.wish(X:Cx)(E:Value->Shared->Prop):Cx:= {X with xe:=E}
abbrev Cx.nox(X:Cx):Cx:=X.wish fun _ _=>False
theorem Cx.Ok.wish(ok:X.Ok)(E:Value->Shared->Prop):(X.wish E).Ok:=
 ⟨ok.mod,ok.kind,ok.glob,ok.blt,ok.above,ok.inj,ok.has,ok.cab,ok.hd,ok.frames,ok.stk,ok.exf,ok.bs,ok.bsz,ok.noex,ok.exfs,ok.funs,ok.frf⟩
theorem Cx.Ok.unwish(ok:(X.wish E).Ok):X.Ok:=
 ⟨ok.mod,ok.kind,ok.glob,ok.blt,ok.above,ok.inj,ok.has,ok.cab,ok.hd,ok.frames,ok.stk,ok.exf,ok.bs,ok.bsz,ok.noex,ok.exfs,ok.funs,ok.frf⟩
theorem Inv.wish(I:Inv X pins σ H s)(E:Value->Shared->Prop):Inv (X.wish E) pins σ H s:=⟨I.ok.wish E,I.os,I.bare,I.base,I.loc,I.cell,I.free,I.freeC,I.pin,I.hok,I.len⟩
theorem Inv.unwish(I:Inv (X.wish E) pins σ H s):Inv X pins σ H s:=⟨I.ok.unwish,I.os,I.bare,I.base,I.loc,I.cell,I.free,I.freeC,I.pin,I.hok,I.len⟩
theorem SP.unwish{D:Ends}{f:Flow}{s':Shared}(h:SP (X.wish E) pins D f s'):SP X pins D f s':=by
 cases f with
 |next=>obtain⟨σ',H',I,q⟩:=h;exact⟨σ',H',I.unwish,q⟩
 |brk=>obtain⟨σ',H',I,q⟩:=h;exact⟨σ',H',I.unwish,q⟩
 |cont=>obtain⟨σ',H',I,q⟩:=h;exact⟨σ',H',I.unwish,q⟩
 |ret u=>obtain⟨v,σ',H',I,r,q⟩:=h;exact⟨v,σ',H',I.unwish,r,q⟩
theorem PSs.nox{st:List Stmt}(h:PSs X.nox st t):PSs X st t:=fun pins s σ H D I hw=>
 wpAny_mono (h pins s σ H D (I.wish _) hw) (fun _ _ q=>q.unwish) fun _ _ z=>False.elim z
def vq:TS:=fun D σ H=>D.nx σ H
def tSeq(t u:TS):TS:=fun D σ H=>t {D with nx:=u D} σ H
theorem aS:PSs X [] vq:=fun _ _ σ H _ I h=>wpAny_execs_nil ⟨σ,H,I,h⟩
theorem ac{st:Stmt}{rest:List Stmt}{u:TS}(h1:PS X st t)(h2:PSs X rest u):PSs X (st::rest) (tSeq t u):=by
 intro pins s σ H D I h;refine wpAny_execs_cons (thn (h1 pins s σ H {D with nx:=u D} I h) fun f s1 q=>?_)
 cases f with
 |next=>
  obtain⟨σ',H',a,q⟩:=q;exact h2 pins s1 σ' H' D a q
 |ret v=>exact q
 |brk=>exact q
 |cont=>exact q
theorem ag{st:Stmt}(h1:PS X st t):PSs X [st] t:=by
 intro pins s σ H D I h;refine wpAny_execs_cons (thn (h1 pins s σ H D I h) fun f s1 q=>?_)
 cases f with
 |next=>exact wpAny_execs_nil q
 |ret v=>exact q
 |brk=>exact q
 |cont=>exact q
theorem Inv.quiet(I:Inv X pins σ H s):interactive X.env=false:=by simp[interactive,I.ok.kind]
def vA(te:TE):TS:=fun D σ H=>te σ H fun _ H1=>D.nx σ H1
theorem bA{pos:Pos}(he:PE X e te)(hs:swapsWith e none pos.line X.env=pure false:=by rfl):PS X (.Expr e pos) (vA te):=by
 intro pins s σ H D I h;exact wpAny_Expr_any (thn (he pins s σ H _ I h) fun v s1 ⟨x,H1,a,r1,b⟩=>⟨σ,H1,a,b⟩) I.quiet hs
def tRet(te:TE):TS:=fun D σ H=>te σ H D.rt
theorem aD{pos:Pos}(he:PE X e te):PS X (.Return (some e) pos) (tRet te):=by
 intro pins s σ H D I h;exact wpAny_Return_some (thn (he pins s σ H _ I h) fun v s1 ⟨x,H1,a,r1,b⟩=>⟨x,σ,H1,a,r1,b⟩)
def tIfS(c:TT)(t u:TS):TS:=fun D σ H=>c σ H fun b H1=>if b=true then t D σ H1 else u D σ H1
variable{es:List Expr}{a:Expr}
theorem bS{u:TS}{pos:Pos}{c:Expr}{a b:List Stmt}(hc:PT X c tc)(ha:PSs X a t)(hb:PSs X b u):PS X (.If c a b pos) (tIfS tc t u):=by
 intro pins s σ H D I h;refine wpAny_If (thn (hc pins s σ H _ I h) fun d s1 ⟨H1,e,f⟩=>?_)
 cases d with
 |true=>exact ha pins s1 σ H1 D e f
 |false=>exact hb pins s1 σ H1 D e f
abbrev TG:=V->St->Hp->(St->Hp->Prop)->Prop
abbrev TGs:=List V->St->Hp->(St->Hp->Prop)->Prop
def PG(X:Cx)(target:Expr)(t:TG):Prop:=
 ∀(pins:List (Addr×Obj)) (s:Shared) (σ:St) (H:Hp) (v:V) (u:Value) (Q:St->Hp->Prop),Inv X pins σ H s->RelV v u->t v σ H Q->
  wpAny (model X.prog X.w) X.A (assign target X.env u) (fun _ s'=>∃σ' H',Inv X pins σ' H' s'/\Q σ' H') X.xe s
def PGs(X:Cx)(ts:List Expr)(t:TGs):Prop:=
 ∀(pins:List (Addr×Obj)) (s:Shared) (σ:St) (H:Hp) (vs:List V) (us:List Value) (Q:St->Hp->Prop),Inv X pins σ H s->Vals vs us->t vs σ H Q->
  wpAny (model X.prog X.w) X.A (assignInOrder ((assignEach ts X.env).map (·.2)) us) (fun _ s'=>∃σ' H',Inv X pins σ' H' s'/\Q σ' H') X.xe s
abbrev TSet:=V->V->V->Hp->(Hp->Prop)->Prop
def PSet(X:Cx)(t:TSet):Prop:=
 ∀(pins:List (Addr×Obj)) (s:Shared) (σ:St) (H:Hp) (o i v:V) (ov iv u:Value) (Q:Hp->Prop),Inv X pins σ H s->RelV o ov->RelV i iv->RelV v u->t o i v H Q->
  wpAny (model X.prog X.w) X.A (setItem ov iv u) (fun _ s'=>∃H',Inv X pins σ H' s'/\Q H') X.xe s
def aM(i:Nat):TG:=fun v σ H Q=>Q (σ.set i (some v)) H
theorem dL{pos:Pos}(hN:X.N.Nodup)(hi:X.N[i]?=some x)(hx:Loc X.env.scope x)(hf:X.fn x=true\/X.env.scope.names.lookup x=some .local:=by first|exact .inl rfl|exact .inr rfl|assumption):PG X (.Name x pos) (aM i):=by
 intro pins s σ H v u Q I r h;exact wpAny_assign_Name (eU I hN hi hx r (fun s' a=>⟨_,H,a,h⟩) hf)
def gNil:TGs:=fun vs σ H Q=>vs= []/\Q σ H
def b9(t:TG)(u:TGs):TGs:=fun vs σ H Q=>∃v r,vs=v::r/\t v σ H fun σ' H'=>u r σ' H' Q
theorem aQ:PGs X [] gNil:=by
 intro pins s σ H vs us Q I r h;obtain⟨e,h⟩:=h;subst e;cases r;exact assignInOrder_nil ⟨σ,H,I,h⟩
variable{lo:Int}{D:Ends}{t:TA}{tl:TE}{vs:List V}{fp:List Addr}{body:List Stmt}{n:Nat}{C:Addr}{tg l:Expr}{pos' p:Pos}{f:Value->Value->Sem Value}{r:R2}
theorem aj{t:TG}{u:TGs}(h1:PG X e t)(h2:PGs X es u)(hs:(assignEach (e::es) X.env).map (·.2)=assign e X.env::(assignEach es X.env).map (·.2):=by rfl):PGs X (e::es) (b9 t u):=by
 intro pins s σ H vs us Q I r h;obtain⟨v,f,e1,h⟩:=h;subst e1
 cases r with
 |cons r b=>
  rw[hs];refine assignInOrder_cons (thn (h1 pins s σ H _ _ _ I r h) fun _ s1 ⟨c,H1,d,a⟩=>?_);exact h2 pins s1 c H1 _ _ Q d b a
def gTup(K:PySem.W.Frag)(n:Nat)(t:TGs):TG:=fun v σ H Q=>∃a xs,v= .ref a/\SqT K H a xs/\xs.length=n/\t xs σ H Q
theorem ba{pos:Pos}{k:Nat}{t:TGs}(hc:X.calm=true)(h:PGs X es t)(hn:(assignEach es X.env).length=n:=by rfl)(hst:(assignEach es X.env).findIdx? (·.1)=none:=by rfl):PG X (.Tuple es k pos) (gTup X.K n t):=by
 intro pins s σ H v u Q I r hw;obtain⟨a,xs,e1,hq,hl,hw⟩:=hw;subst e1;cases r;obtain⟨its,rv,ht,hz⟩:=I.tuple hq;refine assign_Tuple_tuple (I.ok.hd hc) ht (by simp[hn,<-hl,rv.length]) hst fun h' hx=>?_
 have c:Inv X pins σ H {s with heap:=h'}:=I.kept (t':=s.toks) fun b o e=>hx b o (zo (Heap.lt_size e)) e;exact h pins _ σ H xs _ Q c (by simpa using rv) hw
def gSub(to ti:TE)(t:TSet):TG:=fun v σ H Q=>to σ H fun o H1=>ti σ H1 fun i H2=>t o i v H2 fun H3=>Q σ H3
theorem gY{pos:Pos}{o i:Expr}{to ti:TE}{t:TSet}(ho:PE X o to)(hi:PE X i ti)(hs:PSet X t)(ha:∀v,assign (.Subscript o i pos) X.env v=(do
  let ov<-holding [v] (eval o X.env)
  let iv<-holding [v,ov] (eval i X.env)
  standAt pos
  holding [v,ov,iv] (setItem ov iv v)
  release [v,ov,iv] []):=by intro _;rfl):PG X (.Subscript o i pos) (gSub to ti t):=by
 intro pins s σ H v u Q I r h;rw[ha];refine wpAny_bind (wpAny_holding (thn (ho pins s σ H _ I h) fun ov s1 ⟨x,H1,f,r1,d⟩=>?_));refine wpAny_bind (wpAny_holding (thn (hi pins s1 σ H1 _ f d) fun iv g ⟨y,H2,b,r2,e⟩=>?_));refine wpAny_bind (wpAny_standAt (wpAny_bind (wpAny_holding (thn (hs pins g σ H2 x y v ov iv u _ b r1 r2 r e) fun _ s3 ⟨H3,a,c⟩=>?_))));exact wpAny_release (U3 σ H3 a c)
def tAsg(te:TE)(g:TG):TS:=fun D σ H=>te σ H fun x H1=>g x σ H1 D.nx
theorem dZ{pos:Pos}{g:TG}(he:PE X e te)(hg:PG X tg g)(hs:swapsWithSole [tg] e pos.line X.env=pure false:=by rfl)(hw:swappedStores [tg] e X.env=pure none:=by rfl)(h1:(assignEach [tg] X.env).map (·.2)= [assign tg X.env]:=by rfl):PS X (.Assign [tg] e pos) (tAsg te g):=by
 intro pins s σ H D I h;refine wpAny_Assign_stores (thn (he pins s σ H _ I h) fun v s1 ⟨x,H1,a,r1,b⟩=>?_) hs hw;rw[h1];exact thn (hg pins s1 σ H1 x v _ a r1 b) fun _ c q=>q
theorem rM{pos:Pos}(hN:X.N.Nodup)(hi:X.N[i]?=some x)(hx:Loc X.env.scope x)(he:PE X e te)(hs:swapsWith e (some (.Name x pos')) pos.line X.env=pure false:=by rfl)(hf:X.fn x=true\/X.env.scope.names.lookup x=some .local:=by first|exact .inl rfl|exact .inr rfl|assumption):
 PS X (.Assign [.Name x pos'] e pos) (tAsg te (aM i)):=by
 intro pins s σ H D I h;refine wpAny_Assign_Name (thn (he pins s σ H _ I h) fun v s1 ⟨y,H1,a,r1,c⟩=>?_) hs;exact eU a hN hi hx r1 (fun d b=>⟨_,H1,b,c⟩) hf
def tPar(i j:Nat)(ta:TA):TS:=fun D σ H=>ta σ H fun vs H1=>∃v w,vs= [v,w]/\D.nx ((σ.set i (some v)).set j (some w)) H1
theorem rN{pos:Pos}{y:Str}{b:Expr}{ta:TA}{px py pt:Pos}{kt k2 pt2}(hc:X.calm=true)(hN:X.N.Nodup)(hi:X.N[i]?=some x)(hj:X.N[j]?=some y)(hij:i≠j)(hx:X.env.scope.names.lookup x=some .local)(hy:X.env.scope.names.lookup y=some .local)(ha:PA X [a,b] ta)(hw:swappedStores [.Tuple [.Name x px, .Name y py] kt pt] (.Tuple [a,b] k2 pt2) X.env=pure (some [x,y]))(hs:swapsWithSole [.Tuple [.Name x px, .Name y py] kt pt] (.Tuple [a,b] k2 pt2) pos.line X.env=pure false:=by rfl):
 PS X (.Assign [.Tuple [.Name x px, .Name y py] kt pt] (.Tuple [a,b] k2 pt2) pos) (tPar i j ta):=by
 intro pins s σ H D I h;rw[exec_Assign_arm];refine wpAny_bind (wpAny_standAt ?_);rw[hs];refine wpAny_bind (wpAny_pure ?_);rw[if_neg (by decide)]
 refine wpAny_bind (Tuple_ (thn (ha _ pins s σ H _ I h) fun us s1 ⟨vs,H1,u,r1,g⟩=>?_));obtain⟨v,w,e1,g⟩:=g;subst e1
 obtain⟨c,d,rfl,rv,f⟩:∃c d,us= [c,d]/\RelV v c/\RelV w d:=by
  cases r1 with
  |cons p q=>
   cases q with
   |cons r m=>
    cases m;exact Y5 _ _ rfl p r
 refine wpAny_newObj_type ?_ (by show 2<=sizeLine;decide)
 have n:Inv X pins σ H1 {s1 with heap:=s1.heap.push {cls:= .type "tuple",data:= .seq [c,d].toArray}}:=u.kept (t':=s1.toks) fun b o e=>Heap.get?_push_of_some _ e;rw[hw];refine wpAny_bind (wpAny_pure ?_);show wpAny (model X.prog X.w) X.A (do rule "assign.swapped-stores";let items<-unpackItems (.ref s1.heap.objs.size) 2 none;assignInOrder [fun v=>bindName X.env y v,fun v=>bindName X.env x v] items.reverse;pure Flow.next) _ _ _
 refine wpAny_bind (wpAny_rule (wpAny_bind (unpackItems_tuple (items:= #[c,d]) (I.ok.hd hc) (IsTup.new s1.heap _) fun h' hx'=>?_)));have l:=n.kept (h':=h') (t':=s1.toks) fun b o e=>hx' b o (zo (Heap.lt_size e)) e;show wpAny _ _ (assignInOrder [fun v=>bindName X.env y v,fun v=>bindName X.env x v] [d,c] >>=fun _=>pure Flow.next) _ _ _;refine wpAny_bind (assignInOrder_cons (wpAny_bindName (eU l hN hj (.inl hy) f (fun z t=>?_) (.inr hy))));refine assignInOrder_cons (wpAny_bindName (eU t hN hi (.inl hx) rv (fun s3 k=>assignInOrder_nil (wpAny_pure ?_)) (.inr hx)));rw[List.set_comm _ _ (Ne.symm hij)]at k;exact U3 _ H1 k g
def qp(c:TT)(tb:TS):TS:=fun D σ H=>∃W:Nat->St->Hp->Prop,(∃m,W m σ H)/\∀m σ H,W m σ H->
 c σ H fun b H1=>if b=true then∃N:St->Hp->Prop,(∀σ' H',N σ' H'->∃m',m' < m/\W m' σ' H')/\tb {D with nx:=N,ct:=N,bk:=D.nx} σ H1 else D.nx σ H1
theorem dy{pos:Pos}{c:Expr}{tb:TS}(hp:PassesOwn (model X.prog X.w) X.A X.env X.xe)(hc:PT X c tc)(hb:PSs X body tb):PS X (.While c body [] pos) (qp tc tb):=by
 intro pins s σ H D I h;obtain⟨W,⟨o,m⟩,turn⟩:=h;refine wpAny_While (codeAny_whileLoop (fun n s'=>∃σ' H',Inv X pins σ' H' s'/\W n σ' H') ?_ o (U3 σ H I m));rintro n s1 ⟨g,H1,p,q⟩;refine wpAny_passesOwn hp (thn (hc pins s1 g H1 _ p (turn n g H1 q)) fun b r ⟨H2,k,e⟩=>?_)
 cases b with
 |true=>
  obtain⟨N,l,e⟩:=e;rw[if_pos rfl];refine wpAny_passesOwn hp (thn (hb pins r g H2 _ k e) fun f s3 d=>?_)
  cases f with
  |next=>
   obtain⟨a,H3,i,n3⟩:=d;obtain⟨m',hm,j⟩:=l a H3 n3;exact Y3 m' hm (U3 a H3 i j)
  |cont=>
   obtain⟨a,H3,i,n3⟩:=d;obtain⟨m',hm,j⟩:=l a H3 n3;exact Y3 m' hm (U3 a H3 i j)
  |brk=>exact d
  |ret v=>exact d
 |false=>
  rw[if_neg zt];exact wpAny_execs_nil (U3 g H2 k e)
structure It where
 go:Nat->Hp->Prop
 yld:Nat->Hp->V->Hp->Prop
 stop:Nat->Hp->Prop
def FpOk(X:Cx)(pins:List (Addr×Obj))(H:Hp)(b:Addr):Prop:=
 H b=none/\b≠X.env.locals/\b∉X.fs/\(b∈X.ex\/X.s₀.heap.objs.size<=b)/\(∀x c,X.env.cells.lookup x=some c->c≠b)/\∀p∈X.pn++pins,p.1≠b
theorem Inv.fpOk{b:Addr}(I:Inv X pins σ H s)(hb:s.heap.objs.size<=b)(hn:H' b=none):FpOk X pins H' b:=by
 refine⟨hn,Nat.ne_of_gt (ze I.lt hb),I.nofs hb, .inr (z7 I.sz hb),fun x c e z=>?_,fun p hp z=>?_⟩
 . obtain⟨v,q⟩:=I.cell x c e;exact absurd (ze q.lt (by rw[z];exact hb)) (zN _)
 . exact absurd (ze (Heap.lt_size (I.pin p hp).1) (by rw[z];exact hb)) (zN _)
structure Turn (P:Program) (w:World) (K:PySem.W.Frag) (tg:Expr) (J:It) (fp:List Addr) (it:Addr) (tn:Nat->Heap->Prop):Prop where
 mem:it∈fp
 obj:∀i h,tn i h->∀b∈fp,∃o,h.get? b=some o/\∀v,o.data≠ .cell v
 keep:∀i h h',tn i h->(∀b∈fp,∀o,h.get? b=some o->h'.get? b=some o)->tn i h'
 item:∀(X:Cx),X.prog=P->X.w=w->X.K=K->X.calm=true->∀(i:Nat) (pins:List (Addr×Obj)) (s:Shared) (σ:St) (H:Hp) (E:Value->Shared->Prop),Inv X pins σ H s->(∀b∈fp,FpOk X pins H b)->tn i s.heap->J.go i H->
  wpAny (model P w) X.A (pyNext (.ref it)) (fun r s1=>∃u,r=some u/\
   wpAny (model P w) X.A (letOwnedTupleGo tg (.ref it) u) (fun _ s2=>∃x H',Inv X pins σ H' s2/\RelV x u/\J.yld i H x H'/\tn (i+1) s2.heap/\∀b∈fp,H' b=none) E s1) E s
 done:∀(X:Cx),X.prog=P->X.w=w->X.K=K->X.calm=true->∀(i:Nat) (pins:List (Addr×Obj)) (s:Shared) (σ:St) (H:Hp) (E:Value->Shared->Prop),Inv X pins σ H s->(∀b∈fp,FpOk X pins H b)->tn i s.heap->J.stop i H->
  wpAny (model P w) X.A (pyNext (.ref it)) (fun r s1=>r=none/\Inv X pins σ H s1) E s
 self:∀(A:Around) (i:Nat) (s:Shared) (Q:Value->Shared->Prop) (E:Value->Shared->Prop),tn i s.heap->Q (.ref it) s->wpAny (model P w) A (pyIter (.ref it)) Q E s
abbrev TI:=St->Hp->(It->Hp->Prop)->Prop
def PIE(X:Cx)(pins:List (Addr×Obj))(σ:St)(tg:Expr)(R:It->Hp->Prop)(itv:Value)(s2:Shared):Prop:=
 ∃(it:Addr) (fp:List Addr) (tn:Nat->Heap->Prop) (J:It) (H':Hp),itv= .ref it/\Inv X pins σ H' s2/\Turn X.prog X.w X.K tg J fp it tn/\tn 0 s2.heap/\(∀b∈fp,FpOk X pins H' b)/\R J H'
def PI(X:Cx)(tg iter:Expr)(wi:TI):Prop:=
 ∀(pins:List (Addr×Obj)) (s:Shared) (σ:St) (H:Hp) (R:It->Hp->Prop),Inv X pins σ H s->wi σ H R->
  wpAny (model X.prog X.w) X.A (eval iter X.env) (fun v s1=>wpAny (model X.prog X.w) X.A (pyIter v) (PIE X pins σ tg R) X.xe s1) X.xe s
theorem sX{n:String}{vs:Array Value}{Q:Unit->Shared->Prop}(ho:s.heap.get? it=some o)(hc:o.cls= .type n)(hd:o.data= .fields vs)(hn: ["enumerate","zip","dict_itemiterator","dict_reverseitemiterator","odict_iterator","itertools.zip_longest","itertools.pairwise"].contains n=false)(hQ:Q () s):wpAny M A (letOwnedTupleGo tg (.ref it) u) Q E s:=by
 unfold letOwnedTupleGo
 cases tg<;>first
  |exact wpAny_pure hQ
  |(cases u<;>first
     |exact wpAny_pure hQ
     |(refine wpAny_bind (wpAny_load ho ?_)
       rw[hc,hd];show wpAny M A (if (["enumerate","zip","dict_itemiterator","dict_reverseitemiterator","odict_iterator","itertools.zip_longest","itertools.pairwise"].contains n&&vs[0]?==some (rawInt _))=true then _ else _) Q E s;rw[if_neg (by intro h;rw[hn,Bool.false_and]at h;cases h)]
       exact wpAny_pure hQ))
def Itl(K:PySem.W.Frag)(a:Addr):It:=
 ⟨fun i H=>∃xs x,SqL K H a xs/\xs[i]?=some x,fun i H x H'=>H'=H/\∀xs,SqL K H a xs->xs[i]?=some x,fun i H=>∃xs,SqL K H a xs/\xs.length<=i⟩
def Itt(K:PySem.W.Frag)(a:Addr):It:=
 ⟨fun i H=>∃xs x,SqT K H a xs/\xs[i]?=some x,fun i H x H'=>H'=H/\∀xs,SqT K H a xs->xs[i]?=some x,fun i H=>∃xs,SqT K H a xs/\xs.length<=i⟩
def Itr(lo:Int)(n:Nat):It:=⟨fun i _=>i < n,fun i H x H'=>H'=H/\x= .int (lo+i),fun i _=>n<=i⟩
theorem oE(a it:Addr):Turn P w K tg (Itl K a) [it] it (fun i h=>h.IsListIter it a i) where
 mem:=by simp
 obj:=fun i h st b hb=>by
  have e:b=it:=by simpa using hb
  subst e;obtain⟨o,e,c,d⟩:=st;exact Y3 o e (fun v z=>by rw[d]at z;cases z)
 keep:=fun i h h' st k=>st.at fun o e=>k it (by simp) o e
 item:=by
  intro X r hw l hc i pins s σ H E I g st t;subst r hw l;obtain⟨xs,x,hq,hx⟩:=t;obtain⟨its,rv,p,hz⟩:=I.list hq;obtain⟨u,hu,ru⟩:=rv.get hx;obtain⟨f0,q,f2,j,n,m⟩:=g it (by simp)
  refine wpAny_pyNext_list_item st p.isList (x:=u) (by simpa using hu) fun h' f sb=>?_
  have I1:Inv X pins σ H {s with heap:=h'}:=I.turned (t':=s.toks) (fun b o hb e=>(sb.2 b hb).trans e) f0 q j n m;obtain⟨o,e,c,d⟩:=id f;exact Y3 u rfl (sX (s:= {s with heap:=h'}) e c d (by decide) (Y4 x H ⟨I1,ru,⟨rfl,fun ys hy=>by rw[I.list_inj hy hq];exact hx⟩,f,fun b hb=>(g b hb).1⟩))
 done:=by
  intro X r hw l hc i pins s σ H E I g st t;subst r hw l;obtain⟨xs,hq,hx⟩:=t;obtain⟨its,rv,p,hz⟩:=I.list hq;obtain⟨f0,q,f2,j,n,m⟩:=g it (by simp)
  have hl:=rv.length;exact wpAny_pyNext_list_end (I.ok.hd hc) st p.isList (by simp;omega) fun h' y=>⟨rfl,I.turned (t':=s.toks) (fun b o hb e=>y b o hb e) f0 q j n m⟩
 self:=fun _ _ _ _ _ st h=>wpAny_pyIter_listiter st h
theorem lD(a it:Addr):Turn P w K tg (Itt K a) [it] it (fun i h=>h.IsTupleIter it a i) where
 mem:=by simp
 obj:=fun i h st b hb=>by
  have e:b=it:=by simpa using hb
  subst e;obtain⟨o,e,c,d⟩:=st;exact Y3 o e (fun v z=>by rw[d]at z;cases z)
 keep:=fun i h h' st k=>st.at fun o e=>k it (by simp) o e
 item:=by
  intro X r hw l hc i pins s σ H E I g st t;subst r hw l;obtain⟨xs,x,hq,hx⟩:=t;obtain⟨its,rv,p,hz⟩:=I.tuple hq;obtain⟨u,hu,ru⟩:=rv.get hx;obtain⟨f0,q,f2,j,n,m⟩:=g it (by simp)
  refine wpAny_pyNext_tuple_item st (show s.heap.IsTuple a its.toArray from p) (x:=u) (by simpa using hu) fun h' f sb=>?_
  have I1:Inv X pins σ H {s with heap:=h'}:=I.turned (t':=s.toks) (fun b o hb e=>(sb.2 b hb).trans e) f0 q j n m;obtain⟨o,e,c,d⟩:=id f;exact Y3 u rfl (sX (s:= {s with heap:=h'}) e c d (by decide) (Y4 x H ⟨I1,ru,⟨rfl,fun ys hy=>by rw[I.tuple_inj hy hq];exact hx⟩,f,fun b hb=>(g b hb).1⟩))
 done:=by
  intro X r hw l hc i pins s σ H E I g st t;subst r hw l;obtain⟨xs,hq,hx⟩:=t;obtain⟨its,rv,p,hz⟩:=I.tuple hq;obtain⟨f0,q,f2,j,n,m⟩:=g it (by simp)
  have hl:=rv.length;exact wpAny_pyNext_tuple_end (I.ok.hd hc) st (show s.heap.IsTuple a its.toArray from p) (by simp;omega) fun h' y=>⟨rfl,I.turned (t':=s.toks) (fun b o hb e=>y b o hb e) f0 q j n m⟩
 self:=fun _ _ _ _ _ st h=>wpAny_pyIter_tupleiter st h
theorem lE(it:Addr)(lo:Int)(n:Nat):Turn P w K tg (Itr lo n) [it] it (fun i h=>IsRangeIter h it (lo+(i:Nat)*1) ((n:Int) - (i:Nat)) 1) where
 mem:=by simp
 obj:=fun i h st b hb=>by
  have e:b=it:=by simpa using hb
  subst e
  exact Y3 _ st (fun v z=>by
   have x:Data.fields _=Data.cell v:=z
   cases x)
 keep:=fun i h h' st k=>k it (by simp) _ st
 item:=by
  intro X m hw f hc i pins s σ H E I c st p;subst m hw f;obtain⟨f0,l,r,d,j,g⟩:=c it (by simp)
  have W:=Walks.range (prog:=X.prog) (w:=X.w) (I.ok.hd hc) it lo 1 n;refine W.item i s _ _ p st fun v h' tk hv a kk=>?_;obtain⟨t,rfl⟩:=hv;have u:Inv X pins σ H {s with heap:=h',toks:=tk}:=I.turned (fun b o hb e=>kk b o (by simpa using hb) e) f0 l d j g
  refine Y3 _ rfl (sX (s:= {s with heap:=h',toks:=tk}) (n:="range_iterator") a rfl rfl (by decide) (Y4 (.int (lo+i)) H ⟨u,⟨t,?_⟩,⟨rfl,rfl⟩,a,fun b hb=>(c b hb).1⟩))
  rw[Int.mul_one]
 done:=by
  intro X m hw f hc i pins s σ H E I c st p;subst m hw f;obtain⟨f0,l,r,d,j,g⟩:=c it (by simp)
  exact wpAny_pyNext_range_end (I.ok.hd hc) st (by have:n<=i:=p;omega) fun h' q=>⟨rfl,I.turned (t':=s.toks) (fun b o hb e=>q b o hb e) f0 l d j g⟩
 self:=fun _ _ _ _ _ st h=>wpAny_pyIter_rangeiter st h
def oh(K:PySem.W.Frag)(tl:TE):TI:=fun σ H R=>tl σ H fun x H1=>∃a,x= .ref a/\(∃xs,SqL K H1 a xs)/\R (Itl K a) H1
def iTup(K:PySem.W.Frag)(tl:TE):TI:=fun σ H R=>tl σ H fun x H1=>∃a,x= .ref a/\(∃xs,SqT K H1 a xs)/\R (Itt K a) H1
theorem bn(hl:PE X l tl):PI X tg l (oh X.K tl):=by
 intro pins s σ H R I h;refine thn (hl pins s σ H _ I h) fun v s1 ⟨x,H1,c,r1,d⟩=>?_;obtain⟨a,e,⟨xs,hq⟩,q⟩:=d;subst e;cases r1;obtain⟨its,rv,p,hz⟩:=c.list hq;refine wpAny_pyIter_list p.isList ?_;refine O6 s1.heap.objs.size ([s1.heap.objs.size]) _ _ H1 rfl (c.kept (t':=s1.toks) fun b o e=>Heap.get?_push_of_some _ e) (oE a _) (Y8 _ (Heap.get?_push_size _ rfl) rfl rfl) (fun b hb=>?_) q;have e:b=s1.heap.objs.size:=by simpa using hb
 subst e;exact c.fpOk (yV _) (c.hok.fresh (yV _))
theorem fA(hl:PE X l tl):PI X tg l (iTup X.K tl):=by
 intro pins s σ H R I h;refine thn (hl pins s σ H _ I h) fun v s1 ⟨x,H1,c,r1,d⟩=>?_;obtain⟨a,e,⟨xs,hq⟩,q⟩:=d;subst e;cases r1;obtain⟨its,rv,p,hz⟩:=c.tuple hq;refine wpAny_pyIter_tuple (show s1.heap.IsTuple a its.toArray from p) ?_;refine O6 s1.heap.objs.size ([s1.heap.objs.size]) _ _ H1 rfl (c.kept (t':=s1.toks) fun b o e=>Heap.get?_push_of_some _ e) (lD a _) (Y8 _ (Heap.get?_push_size _ rfl) rfl rfl) (fun b hb=>?_) q;have e:b=s1.heap.objs.size:=by simpa using hb
 subst e;exact c.fpOk (yV _) (c.hok.fresh (yV _))
theorem rC{R:It->Hp->Prop}{hi:Int}{t u v:Tok}{tk:Nat}(I:Inv X pins σ H s)(h1:-(2^62)<=lo)(h2:lo < 2^62)(h3:-(2^62)<=hi)(h4:hi < 2^62)(q:R (Itr lo (hi - lo).toNat) H):wpAny (model X.prog X.w) X.A (pyIter (.ref s.heap.objs.size)) (PIE X pins σ tg R) E {s with heap:=s.heap.push {cls:= .type "range",data:= .fields #[.int lo t, .int hi u, .int 1 v]},toks:=tk}:=by
 refine wpAny_pyIter_range (IsRange.new ..) (small_one h1 h2 h3 h4) ?_;have a:Inv X pins σ H {s with heap:=s.heap.push {cls:= .type "range",data:= .fields #[.int lo t, .int hi u, .int 1 v]},toks:=tk}:=I.kept fun b o e=>Heap.get?_push_of_some _ e
 refine O6 ((s.heap.push {cls:= .type "range",data:= .fields #[.int lo t, .int hi u, .int 1 v]}).objs.size) ([(s.heap.push {cls:= .type "range",data:= .fields #[.int lo t, .int hi u, .int 1 v]}).objs.size]) _ _ H rfl (a.kept (t':=tk) fun b o e=>Heap.get?_push_of_some _ e) (lE _ lo (hi - lo).toNat) ?_ (fun b hb=>?_) q
 . have e1:lo+((0:Nat):Int)*1=lo:=by simp
   have c:(((hi - lo).toNat:Nat):Int) - ((0:Nat):Int)=Builtin.Range.rangeSize lo hi 1:=by rw[rangeSize_one];split<;>omega
   show IsRangeIter _ _ (lo+((0:Nat):Int)*1) ((((hi - lo).toNat:Nat):Int) - ((0:Nat):Int)) 1;rw[e1,c];exact Heap.get?_push_size _ rfl
 . have e:b=(s.heap.push {cls:= .type "range",data:= .fields #[.int lo t, .int hi u, .int 1 v]}).objs.size:=by simpa using hb
   subst e;exact a.fpOk (yV _) (a.hok.fresh (yV _))
def yH(ta:TA):TI:=fun σ H R=>ta σ H fun vs H1=>∃j:Int,vs= [.int j]/\ -(2^62)<=j/\j < 2^62/\R (Itr 0 j.toNat) H1
theorem cB{ta:TA}{pos:Pos}(hg:Gl X "range")(hm:X.mg "range"=none)(ha:PA X [a] ta)(hs:starEach [a] X.env= [(false,eval a X.env)]:=by rfl):PI X tg (.Call (.Name "range" p) [a] [] pos) (yH ta):=by
 intro pins s σ H R I h;refine Call_ (dB I hg hm boot_range (PyProof.Rows.callWith_type1 (thn (ha pos pins s σ H _ I h) fun us s1 ⟨vs,H1,f,r1,b⟩=>?_) hs rfl));obtain⟨j,e,b,c,q⟩:=b;subst e
 cases r1 with
 |cons r d=>
  cases d;obtain⟨t,rfl⟩:=r;exact call_range_1 (rC f (by omega) (by omega) b c (by simpa using q))
def tFor(wi:TI)(g:TG)(tb:TS):TS:=fun D σ H=>wi σ H fun J H1=>∃W:Nat->Nat->St->Hp->Prop,(∃m,W 0 m σ H1)/\∀i m σ H,W i m σ H->
 (J.stop i H/\D.nx σ H)\/(J.go i H/\∃N:St->Hp->Prop,(∀σ' H',N σ' H'->∃m',m' < m/\W (i+1) m' σ' H')/\∀x H',J.yld i H x H'->g x σ H' fun σ2 H2=>tb {D with nx:=N,ct:=N,bk:=D.nx} σ2 H2)
noncomputable def gX(fp:List Addr)(h:Heap):List (Addr×Obj):=fp.filterMap fun b=>(h.get? b).map fun o=>(b,o)
theorem eD{b:Addr}(hb:b∈fp)(e:h.get? b=some o):(b,o)∈gX fp h:=List.mem_filterMap.mpr ⟨b,hb,by rw[e];rfl⟩
theorem oW{p:Addr×Obj}(hp:p∈gX fp h):p.1∈fp/\h.get? p.1=some p.2:=by
 obtain⟨b,hb,e⟩:=List.mem_filterMap.mp hp
 cases q:h.get? b with
 |none=>rw[q]at e;cases e
 |some o=>
  rw[q]at e;have e':(b,o)=p:=z9 e;subst e';exact⟨hb,q⟩
theorem Inv.pinned(I:Inv X pins σ H s)(hf:∀b∈fp,FpOk X pins H b)(ho:∀b∈fp,∃o,s.heap.get? b=some o/\∀v,o.data≠ .cell v):Inv X (pins++gX fp s.heap) σ H s:=
 I.pins_of fun p hp=>(zw.mp hp).elim (fun z=>I.pin p (zy _ z)) fun z=>by
  obtain⟨hb,e⟩:=oW z;obtain⟨f0,a,c,_⟩:=hf p.1 hb;obtain⟨o,e',d⟩:=ho p.1 hb;rw[e]at e';cases e';exact⟨e,f0,a,c,d⟩
theorem Inv.unpinned{pl:List (Addr×Obj)}(I:Inv X (pins++pl) σ H s):Inv X pins σ H s:=I.pins_of fun p hp=>I.pin p (zy _ (Af _ hp))
theorem bV{iter:Expr}{wi:TI}{g:TG}{tb:TS}{pos:Pos}(hp:PassesOwn (model X.prog X.w) X.A X.env X.xe)(hc:X.calm=true)(hi:PI X tg iter wi)(hg:PG X tg g)(hb:PSs X body tb)(hs:∀x,foldedSetIterable iter X.env x=pure x:=by intro _;rfl):PS X (.For tg iter body [] pos) (tFor wi g tb):=by
 intro pins s σ H D I h;refine wpAny_For (thn (hi pins s σ H _ I h) fun v s1 h1=>thn h1 fun ao s2 h2=>?_) hs;refine hZq fun q_ e_=>?_;obtain⟨it,fp,tn,J,H2,e,I2,T,z,f2,W,⟨m0,w0⟩,turn⟩:=h2;subst e_;subst e;have c:∀ {H':Hp},(∀b∈fp,H' b=none)->∀b∈fp,FpOk X pins H' b:=fun hn b hb=>⟨hn b hb,(f2 b hb).2⟩;refine codeAny_forLoop_any (fun n s'=>∃i σ' H',Inv X pins σ' H' s'/\tn i s'.heap/\(∀b∈fp,H' b=none)/\W i n σ' H') ?_ m0 ⟨0,Y7 σ H2 I2 z (fun b hb=>(f2 b hb).1) w0⟩;intro n s3 z_;refine hZq fun q_ e_=>?_;obtain⟨i,q,H3,I3,t,p,w3⟩:=z_;subst e_;rcases turn i n q H3 w3 with⟨stop,qn⟩|⟨go,N,hN,step⟩
 . refine wpAny_passesOwn hp (thn (T.done X rfl rfl rfl hc i pins s3 q H3 X.xe I3 (c p) t stop) fun r s4 ⟨hr,I4⟩=>?_);subst hr;exact wpAny_execs_nil (U3 q H3 I4 qn)
 . refine wpAny_passesOwn hp (thn (T.item X rfl rfl rfl hc i pins s3 q H3 X.xe I3 (c p) t go) fun r s4 ⟨u,hr,h4⟩=>?_);subst hr;refine wpAny_passesOwn hp (thn h4 fun _ s5 ⟨x,H5,I5,r5,y5,l,y⟩=>?_);have ai:=I5.pinned (c y) (T.obj _ _ l);refine wpAny_passesOwn hp (thn (hg _ s5 q H5 x u _ ai r5 (step x H5 y5)) fun _ s6 ⟨σ6,H6,I6,q6⟩=>?_);refine wpAny_passesOwn hp (thn (hb _ s6 σ6 H6 _ I6 q6) fun f s7 k=>?_)
   have again:∀ {a:St} {H7:Hp},Inv X (pins++gX fp s5.heap) a H7 s7->N a H7->∃m,m < n/\∃i σ' H',Inv X pins σ' H' s7/\tn i s7.heap/\(∀b∈fp,H' b=none)/\W i m σ' H':=fun{a H7} j n7=>by
    obtain⟨m',hm,w7⟩:=hN a H7 n7;refine J4 m' hm (i+1) a H7 j.unpinned ⟨T.keep _ _ _ l fun b hb o e=>(j.pin (b,o) (zy _ (zy _ (eD hb e)))).1,fun b hb=>?_,w7⟩;obtain⟨o,e,d⟩:=T.obj _ _ l b hb;exact(j.pin (b,o) (zy _ (zy _ (eD hb e)))).2.1
   cases f with
   |next=>obtain⟨a,H7,j,n7⟩:=k;exact again j n7
   |cont=>obtain⟨a,H7,j,n7⟩:=k;exact again j n7
   |brk=>obtain⟨a,H7,j,k⟩:=k;exact U3 a H7 j.unpinned k
   |ret v=>obtain⟨x7,a,H7,j,r7,k⟩:=k;exact J2 x7 a H7 j.unpinned r7 k
theorem dD{a:Addr}{g:TG}{tb:TS}(Pv:Nat->St->Hp->Prop)(h0:Pv 0 σ H)(hl:∀i σ H,i<=xs.length->Pv i σ H->SqL K H a xs)(hs:∀i x σ H,xs[i]?=some x->Pv i σ H->g x σ H fun σ2 H2=>tb {D with nx:=Pv (i+1),ct:=Pv (i+1),bk:=D.nx} σ2 H2)(hd:∀σ H,Pv xs.length σ H->D.nx σ H):
 ∃W:Nat->Nat->St->Hp->Prop,(∃m,W 0 m σ H)/\∀i m σ H,W i m σ H->
  ((Itl K a).stop i H/\D.nx σ H)\/((Itl K a).go i H/\∃N:St->Hp->Prop,(∀σ' H',N σ' H'->∃m',m' < m/\W (i+1) m' σ' H')/\∀x H',(Itl K a).yld i H x H'->g x σ H' fun σ2 H2=>tb {D with nx:=N,ct:=N,bk:=D.nx} σ2 H2):=by
 refine Y3 (fun i m σ H=>m=xs.length - i/\i<=xs.length/\Pv i σ H) (Y8 xs.length (by simp) (zc _) h0) ?_
 rintro i m σ H ⟨rfl,hi,p⟩;have q:=hl i σ H hi p;by_cases b:i < xs.length
 . refine .inr ⟨(U3 xs (xs[i]) q (by simp[b])),Y3 (Pv (i+1)) (fun σ' H' c=>(U8 (xs.length - (i+1)) (by omega) rfl b c)) (fun x H' y=>?_)⟩
   obtain⟨e,y⟩:=y;subst e;exact hs i x σ _ (y xs q) p
 . have e:i=xs.length:=by omega
   subst e;exact .inl ⟨(Y3 xs q (yV _)),hd σ H p⟩
theorem jF{a:Addr}{g:TG}{tb:TS}(Pv:Nat->St->Hp->Prop)(h0:Pv 0 σ H)(hl:∀i σ H,i<=xs.length->Pv i σ H->SqT K H a xs)(hs:∀i x σ H,xs[i]?=some x->Pv i σ H->g x σ H fun σ2 H2=>tb {D with nx:=Pv (i+1),ct:=Pv (i+1),bk:=D.nx} σ2 H2)(hd:∀σ H,Pv xs.length σ H->D.nx σ H):
 ∃W:Nat->Nat->St->Hp->Prop,(∃m,W 0 m σ H)/\∀i m σ H,W i m σ H->
  ((Itt K a).stop i H/\D.nx σ H)\/((Itt K a).go i H/\∃N:St->Hp->Prop,(∀σ' H',N σ' H'->∃m',m' < m/\W (i+1) m' σ' H')/\∀x H',(Itt K a).yld i H x H'->g x σ H' fun σ2 H2=>tb {D with nx:=N,ct:=N,bk:=D.nx} σ2 H2):=by
 refine Y3 (fun i m σ H=>m=xs.length - i/\i<=xs.length/\Pv i σ H) (Y8 xs.length (by simp) (zc _) h0) ?_
 rintro i m σ H ⟨rfl,hi,p⟩;have q:=hl i σ H hi p;by_cases b:i < xs.length
 . refine .inr ⟨(U3 xs (xs[i]) q (by simp[b])),Y3 (Pv (i+1)) (fun σ' H' c=>(U8 (xs.length - (i+1)) (by omega) rfl b c)) (fun x H' y=>?_)⟩
   obtain⟨e,y⟩:=y;subst e;exact hs i x σ _ (y xs q) p
 . have e:i=xs.length:=by omega
   subst e;exact .inl ⟨(Y3 xs q (yV _)),hd σ H p⟩
theorem fH{g:TG}{tb:TS}(Pv:Nat->St->Hp->Prop)(h0:Pv 0 σ H)(hs:∀i σ H,i < n->Pv i σ H->g (.int (lo+i)) σ H fun σ2 H2=>tb {D with nx:=Pv (i+1),ct:=Pv (i+1),bk:=D.nx} σ2 H2)(hd:∀σ H,Pv n σ H->D.nx σ H):
 ∃W:Nat->Nat->St->Hp->Prop,(∃m,W 0 m σ H)/\∀i m σ H,W i m σ H->
  ((Itr lo n).stop i H/\D.nx σ H)\/((Itr lo n).go i H/\∃N:St->Hp->Prop,(∀σ' H',N σ' H'->∃m',m' < m/\W (i+1) m' σ' H')/\∀x H',(Itr lo n).yld i H x H'->g x σ H' fun σ2 H2=>tb {D with nx:=N,ct:=N,bk:=D.nx} σ2 H2):=by
 refine Y3 (fun i m σ H=>m=n - i/\i<=n/\Pv i σ H) (Y8 n (by simp) (zc _) h0) ?_
 rintro i m σ H ⟨rfl,hi,p⟩;by_cases a:i < n
 . refine .inr ⟨a,Y3 (Pv (i+1)) (fun σ' H' b=>(U8 (n - (i+1)) (by omega) rfl a b)) (fun x H' y=>?_)⟩
   obtain⟨e,y⟩:=y;subst e y;exact hs i σ _ a p
 . have e:i=n:=by omega
   subst e;exact .inl ⟨yV _,hd σ H p⟩
theorem jU{c:TT}{tb:TS}(Pv:St->Hp->Prop)(μ:St->Hp->Nat)(h0:Pv σ H)(hs:∀σ H,Pv σ H->c σ H fun b H1=>if b=true then tb {D with nx:=fun σ' H'=>Pv σ' H'/\μ σ' H' < μ σ H,ct:=fun σ' H'=>Pv σ' H'/\μ σ' H' < μ σ H,bk:=D.nx} σ H1 else D.nx σ H1)(mono:∀σ H Q Q',(∀b H1,Q b H1->Q' b H1)->c σ H Q->c σ H Q'):qp c tb D σ H:=by
 refine⟨fun m σ H=>m=μ σ H/\Pv σ H,⟨_,rfl,h0⟩,?_⟩;rintro m σ H ⟨rfl,p⟩;refine mono σ H _ _ (fun b H1 q=>?_) (hs σ H p)
 cases b with
 |true=>exact⟨_,fun σ' H' ⟨a,l⟩=>⟨_,l,rfl,a⟩,q⟩
 |false=>exact q
abbrev R2:=V->V->Hp->VK->Prop
def OpR(X:Cx)(f:Value->Value->Sem Value)(r:R2):Prop:=
 ∀(pins:List (Addr×Obj)) (s:Shared) (σ:St) (H:Hp) (x y:V) (v u:Value) (Q:VK),Inv X pins σ H s->RelV x v->RelV y u->r x y H Q->
  wpAny (model X.prog X.w) X.A (f v u) (EP X pins σ Q) X.xe s
def UnR(X:Cx)(f:Value->Sem Value)(r:V->Hp->VK->Prop):Prop:=
 ∀(pins:List (Addr×Obj)) (s:Shared) (σ:St) (H:Hp) (x:V) (v:Value) (Q:VK),Inv X pins σ H s->RelV x v->r x H Q->
  wpAny (model X.prog X.w) X.A (f v) (EP X pins σ Q) X.xe s
def cj(X:Cx)(f:Value)(r:List V->Hp->VK->Prop):Prop:=
 ∀(pins:List (Addr×Obj)) (s:Shared) (σ:St) (H:Hp) (xs:List V) (us:List Value) (Q:VK),Inv X pins σ H s->Vals xs us->r xs H Q->
  wpAny (model X.prog X.w) X.A (call f us) (EP X pins σ Q) X.xe s
def TruR(X:Cx)(r:V->Hp->(Bool->Hp->Prop)->Prop):Prop:=
 ∀(pins:List (Addr×Obj)) (s:Shared) (σ:St) (H:Hp) (x:V) (v:Value) (Q:Bool->Hp->Prop),Inv X pins σ H s->RelV x v->r x H Q->
  wpAny (model X.prog X.w) X.A (truthy v) (TP X pins σ Q) X.xe s
def tOp(r:R2)(ta tb:TE):TE:=fun σ H Q=>ta σ H fun x H1=>tb σ H1 fun y H2=>r x y H2 Q
def tUn(r:V->Hp->VK->Prop)(ta:TE):TE:=fun σ H Q=>ta σ H fun x H1=>r x H1 Q
def rI(C:Int->Int->Prop)(g:Int->Int->V):R2:=fun x y H Q=>∃i j,x= .int i/\y= .int j/\C i j/\Q (g i j) H
def rI0(g:Int->Int->V):R2:=fun x y H Q=>∃i j,x= .int i/\y= .int j/\Q (g i j) H
def rU(g:Int->V):V->Hp->VK->Prop:=fun x H Q=>∃i,x= .int i/\Q (g i) H
theorem binT{b:Expr}{tb:TE}(ha:PE X a ta)(hb:PE X b tb){R:V->V->Hp->Prop}(I:Inv X pins σ H s)(h:ta σ H fun x H1=>tb σ H1 fun y H2=>R x y H2)(hf:∀v u s2 x y H2,Inv X pins σ H2 s2->RelV x v->RelV y u->R x y H2->wpAny (model X.prog X.w) X.A (f v u) Q X.xe s2):
 wpAny (model X.prog X.w) X.A (eval a X.env) (fun v s₁=>wpAny (model X.prog X.w) X.A (eval b X.env) (fun u s₂=>wpAny (model X.prog X.w) X.A (f v u) Q X.xe s₂) X.xe s₁) X.xe s:=by
 refine thn (ha pins s σ H _ I h) fun v s1 ⟨x,H1,d,r1,g⟩=>?_;refine thn (hb pins s1 σ H1 _ d g) fun u s2 ⟨y,H2,e,r2,c⟩=>?_;exact hf v u s2 x y H2 e r1 r2 c
theorem av{b:Expr}{tb:TE}{pos:Pos}{op:Operator}(ho:OpR X (binaryOp op) r)(ha:PE X a ta)(hb:PE X b tb):PE X (.BinOp a op b pos) (tOp r ta tb):=by
 intro pins s σ H Q I h;exact wpAny_BinOp (binT ha hb I h fun v u d x y H2 e f c q=>ho pins d σ H2 x y v u Q e f c q)
theorem br{pos:Pos}{op:UnaryOp}{r:V->Hp->VK->Prop}(ho:UnR X (unaryOp op) r)(ha:PE X a ta):PE X (.UnaryOp op a pos) (tUn r ta):=by
 intro pins s σ H Q I h;exact UnaryOp_ (thn (ha pins s σ H _ I h) fun v s1 ⟨x,H1,b,r1,c⟩=>ho pins s1 σ H1 x v Q b r1 c)
theorem opI{C:Int->Int->Prop}{g:Int->Int->Int}(rule:∀(i j:Int) (t u:Tok) (s:Shared) (Q:Value->Shared->Prop) (E:Value->Shared->Prop),C i j->Q (.int (g i j) s.toks) {s with toks:=s.toks+1}->wpAny (model X.prog X.w) X.A (f (.int i t) (.int j u)) Q E s):
 OpR X f (rI C fun i j=> .int (g i j)):=by
 intro pins s σ H x y v u Q I b a h;obtain⟨i,j,rfl,rfl,hc,q⟩:=h;obtain⟨t,rfl⟩:=b;obtain⟨t',rfl⟩:=a;exact rule i j t t' s _ _ hc ⟨.int (g i j),H,I.tok _,⟨_,rfl⟩,q⟩
theorem opI0{g:Int->Int->Int}(rule:∀(i j:Int) (t u:Tok) (s:Shared) (Q:Value->Shared->Prop) (E:Value->Shared->Prop),Q (.int (g i j) s.toks) {s with toks:=s.toks+1}->wpAny (model X.prog X.w) X.A (f (.int i t) (.int j u)) Q E s):
 OpR X f (rI0 fun i j=> .int (g i j)):=by
 intro pins s σ H x y v u Q I b a h;obtain⟨i,j,rfl,rfl,q⟩:=h;obtain⟨t,rfl⟩:=b;obtain⟨t',rfl⟩:=a;exact rule i j t t' s _ _ ⟨.int (g i j),H,I.tok _,⟨_,rfl⟩,q⟩
theorem opB0{g:Int->Int->Bool}(rule:∀(i j:Int) (t u:Tok) (s:Shared) (Q:Value->Shared->Prop) (E:Value->Shared->Prop),Q (.bool (g i j)) s->wpAny (model X.prog X.w) X.A (f (.int i t) (.int j u)) Q E s):
 OpR X f (rI0 fun i j=> .bl (g i j)):=by
 intro pins s σ H x y v u Q I b a h;obtain⟨i,j,rfl,rfl,q⟩:=h;obtain⟨t,rfl⟩:=b;obtain⟨t',rfl⟩:=a;exact rule i j t t' s _ _ ⟨.bl (g i j),H,I,rfl,q⟩
def CDiv(i j:Int):Prop:=0 < j/\j < 1073741824
def CMul(i j:Int):Prop:=(-(2^64) < i/\i < 2^64)\/(-(2^64) < j/\j < 2^64)
variable{i:Int}{kw:List (Str×Value)}{us:List Value}{x dx:Addr}{prog:Program}{f name:Str}{mA:Str->Option Value}
theorem CMul.ok{j:Int}(h:CMul i j):IntMulOk i j:=by
 rcases h with⟨h1,h2⟩|⟨h1,h2⟩
 . exact .of_left (intBits_le_64 h1 h2)
 . exact .of_right (intBits_le_64 h1 h2)
theorem lA(k:Nat):(0:Int)<=2^k:=by
 rw[two_pow_cast];exact Int.natCast_nonneg _
theorem c9:OpR X (binaryOp .Add) (rI0 fun i j=> .int (i+j)):=opI0 fun _ _ _ _ _ _ _ q=>add_int q
theorem lU:OpR X (binaryOp .Sub) (rI0 fun i j=> .int (i - j)):=opI0 fun _ _ _ _ _ _ _ q=>sub_int q
theorem jt:OpR X (binaryOp .Mult) (rI CMul fun i j=> .int (i*j)):=opI fun _ _ _ _ _ _ _ hc q=>mul_int q hc.ok
theorem uA:OpR X (binaryOp .FloorDiv) (rI CDiv fun i j=> .int (i / j)):=opI fun i j _ _ _ _ _ hc q=>by
 have h1:(0:Int) < j:=hc.1;have h2:j < 1073741824:=hc.2;exact floordiv_int (by omega) (by rw[zO i (by omega)];exact q) (.inl (PyProof.noPylong_small (by omega)))
theorem dc:OpR X (binaryOp .Mod) (rI (fun _ j=>0 < j) fun i j=> .int (i%j)):=opI fun i j _ _ _ _ _ hc q=>by
 have h1:(0:Int) < j:=hc;exact mod_int' (by omega) (by rw[Int.fmod_eq_emod_of_nonneg i (by omega)];exact q)
theorem uz:OpR X (binaryOp .Mod) (rI (fun _ j=>j≠0) fun i j=> .int (i.fmod j)):=opI fun _ _ _ _ _ _ _ hc q=>mod_int' hc q
theorem wd:OpR X (binaryOp .RShift) (rI (fun _ j=>0<=j) fun i j=> .int (i / 2^j.toNat)):=opI fun i j _ _ _ _ _ hc q=>
 rshift_int hc (by rw[zO i (lA _)];exact q)
theorem unI{f:Value->Sem Value}{g:Int->Int}(rule:∀(i:Int) (t:Tok) (s:Shared) (Q:Value->Shared->Prop) (E:Value->Shared->Prop),Q (.int (g i) s.toks) {s with toks:=s.toks+1}->wpAny (model X.prog X.w) X.A (f (.int i t)) Q E s):
 UnR X f (rU fun i=> .int (g i)):=by
 intro pins s σ H x v Q I a h;obtain⟨i,rfl,q⟩:=h;obtain⟨t,rfl⟩:=a;exact rule i t s _ _ ⟨.int (g i),H,I.tok _,⟨_,rfl⟩,q⟩
theorem aW:UnR X (unaryOp .USub) (rU fun i=> .int (-i)):=unI fun _ _ _ _ _ q=>neg_int q
noncomputable def scal:V->V->Bool
 | .non, .non=>true| .non, .int _=>true| .int _, .non=>true| .non, .bl _=>true| .bl _, .non=>true| .non, .str _=>true| .str _, .non=>true
 | .int _, .int _=>true| .bl _, .bl _=>true| .str _, .str _=>true| .byt _, .byt _=>true
 | .int _, .str _=>true| .str _, .int _=>true| .bl _, .str _=>true| .str _, .bl _=>true
 |_,_=>false
def rEq:R2:=fun x y H Q=>scal x y=true/\Q (.bl (decide (x=y))) H
def rNe:R2:=fun x y H Q=>scal x y=true/\Q (.bl (!decide (x=y))) H
theorem ou{j:Int}:decide (V.int i=V.int j)=(i==j):=by
 rw[Az];simp
theorem tF{i j:Bool}:decide (V.bl i=V.bl j)=(i==j):=by
 rw[Az];simp
theorem ot{i j:Str}:decide (V.str i=V.str j)=(i==j):=by
 rw[Az];simp
theorem ow{i j:Array UInt8}:decide (V.byt i=V.byt j)=(i.toList==j.toList):=by
 rw[Az];cases i;cases j;simp
theorem aN{Q:VK}{k k':Bool}(I:Inv X pins σ H s)(q:Q (.bl k) H)(e:k=k'):EP X pins σ Q (.bool k') s:=by
 subst e;exact⟨.bl k,H,I,rfl,q⟩
theorem fO:OpR X (compareOp .Eq) rEq:=by
 intro pins s σ H x y v u Q I b a h;obtain⟨hs,q⟩:=h
 cases x with
 |non=>
  cases b
  cases y with
  |non=>cases a;exact PySem.EqNone.eq_none_none (aN I q (by simp))
  |bl j=>cases a;exact PySem.EqNone.eq_none_bool (aN I q (by simp))
  |int j=>obtain⟨t',rfl⟩:=a;exact PySem.EqNone.eq_none_int (aN I q (by simp))
  |str j=>obtain⟨t',rfl⟩:=a;exact PySem.EqNone.eq_none_str (aN I q (by simp))
  |_=>exact absurd (show false=true from hs) zt
 |bl i=>
  cases b
  cases y with
  |non=>cases a;exact PySem.EqNone.eq_bool_none (aN I q (by simp))
  |bl j=>cases a;exact eq_bool (aN I q tF)
  |str j=>obtain⟨t',rfl⟩:=a;exact PySem.EqMixed.eq_bool_str (aN I q (by simp))
  |_=>exact absurd (show false=true from hs) zt
 |int i=>
  obtain⟨t,rfl⟩:=b
  cases y with
  |non=>cases a;exact PySem.EqNone.eq_int_none (aN I q (by simp))
  |int j=>obtain⟨t',rfl⟩:=a;exact eq_int (aN I q ou)
  |str j=>obtain⟨t',rfl⟩:=a;exact PySem.EqMixed.eq_int_str (aN I q (by simp))
  |_=>exact absurd (show false=true from hs) zt
 |str i=>
  obtain⟨t,rfl⟩:=b
  cases y with
  |non=>cases a;exact PySem.EqNone.eq_str_none (aN I q (by simp))
  |bl j=>cases a;exact PySem.EqMixed.eq_str_bool (aN I q (by simp))
  |int j=>obtain⟨t',rfl⟩:=a;exact PySem.EqMixed.eq_str_int (aN I q (by simp))
  |str j=>obtain⟨t',rfl⟩:=a;exact eq_str (aN I q ot)
  |_=>exact absurd (show false=true from hs) zt
 |byt i=>
  obtain⟨t,rfl⟩:=b
  cases y with
  |byt j=>obtain⟨t',rfl⟩:=a;exact PySem.W.eq_bytes (aN I q ow)
  |_=>exact absurd (show false=true from hs) zt
 |_=>cases y<;>exact absurd (show false=true from hs) zt
theorem iM:OpR X (compareOp .NotEq) rNe:=by
 intro pins s σ H x y v u Q I b a h;obtain⟨hs,q⟩:=h
 cases x with
 |non=>
  cases b
  cases y with
  |non=>cases a;exact PySem.EqNone.ne_none_none (aN I q (by simp))
  |bl j=>cases a;exact PySem.EqNone.ne_none_bool (aN I q (by simp))
  |int j=>obtain⟨t',rfl⟩:=a;exact PySem.EqNone.ne_none_int (aN I q (by simp))
  |str j=>obtain⟨t',rfl⟩:=a;exact PySem.EqNone.ne_none_str (aN I q (by simp))
  |_=>exact absurd (show false=true from hs) zt
 |bl i=>
  cases b
  cases y with
  |non=>cases a;exact PySem.EqNone.ne_bool_none (aN I q (by simp))
  |bl j=>cases a;exact ne_bool (aN I q (congrArg not tF))
  |str j=>obtain⟨t',rfl⟩:=a;exact PySem.EqMixed.ne_bool_str (aN I q (by simp))
  |_=>exact absurd (show false=true from hs) zt
 |int i=>
  obtain⟨t,rfl⟩:=b
  cases y with
  |non=>cases a;exact PySem.EqNone.ne_int_none (aN I q (by simp))
  |int j=>obtain⟨t',rfl⟩:=a;exact ne_int (aN I q (congrArg not ou))
  |str j=>obtain⟨t',rfl⟩:=a;exact PySem.EqMixed.ne_int_str (aN I q (by simp))
  |_=>exact absurd (show false=true from hs) zt
 |str i=>
  obtain⟨t,rfl⟩:=b
  cases y with
  |non=>cases a;exact PySem.EqNone.ne_str_none (aN I q (by simp))
  |bl j=>cases a;exact PySem.EqMixed.ne_str_bool (aN I q (by simp))
  |int j=>obtain⟨t',rfl⟩:=a;exact PySem.EqMixed.ne_str_int (aN I q (by simp))
  |str j=>obtain⟨t',rfl⟩:=a;exact ne_str (aN I q (congrArg not ot))
  |_=>exact absurd (show false=true from hs) zt
 |byt i=>
  obtain⟨t,rfl⟩:=b
  cases y with
  |byt j=>obtain⟨t',rfl⟩:=a;exact PySem.W.ne_bytes (aN I q (congrArg not ow))
  |_=>exact absurd (show false=true from hs) zt
 |_=>cases y<;>exact absurd (show false=true from hs) zt
theorem km:OpR X (compareOp .Lt) (rI0 fun i j=> .bl (decide (i < j))):=opB0 fun _ _ _ _ _ _ _ q=>lt_int q
theorem yv:OpR X (compareOp .LtE) (rI0 fun i j=> .bl (decide (i<=j))):=opB0 fun _ _ _ _ _ _ _ q=>le_int q
theorem dA:OpR X (compareOp .Gt) (rI0 fun i j=> .bl (decide (j < i))):=opB0 fun _ _ _ _ _ _ _ q=>gt_int q
theorem yw:OpR X (compareOp .GtE) (rI0 fun i j=> .bl (decide (j<=i))):=opB0 fun _ _ _ _ _ _ _ q=>ge_int q
theorem hU:OpR X (compareOp .Is) (fun x y H Q=>y= .non/\Q (.bl (decide (x= .non))) H):=by
 intro pins s σ H x y v u Q I a b h;obtain⟨rfl,q⟩:=h;cases b;refine is_none_gen (aN I q ?_)
 cases x<;>first
  |(cases a;rfl)
  |(obtain⟨t,rfl⟩:=a;rfl)
theorem aE(b:Expr)(h:op≠ .In:=by decide)(h2:op≠ .NotIn:=by decide):behindInMarks op b=false:=by
 have e1:(op==CmpOp.In)=false:=by cases op<;>first|rfl|exact absurd rfl h
 have a:(op==CmpOp.NotIn)=false:=by cases op<;>first|rfl|exact absurd rfl h2
 cases b<;>simp[behindInMarks,e1,a]
theorem gj{b:Expr}{tb:TE}{pos:Pos}(ho:OpR X (compareOp op) r)(ha:PE X a ta)(hb:PE X b tb)(hm:behindInMarks op b=false):PE X (.Compare a [op] [b] pos) (tOp r ta tb):=by
 intro pins s σ H Q I h;exact wpAny_Compare1 (binT ha hb I h fun v u d x y H2 e f c q=>ho pins d σ H2 x y v u Q e f c q) hm
def vp(t:TE):TT:=fun σ H Q=>t σ H fun x H'=>∃k,x= .bl k/\Q k H'
theorem aw{b:Expr}{tb:TE}{pos:Pos}(ho:OpR X (compareOp op) r)(ha:PE X a ta)(hb:PE X b tb)(hm:behindInMarks op b=false):PT X (.Compare a [op] [b] pos) (vp (tOp r ta tb)):=by
 intro pins s σ H Q I h
 refine wpAny_isTrue_Compare1 (thn (ha pins s σ H _ I h) fun v s1 ⟨x,H1,l,r1,i⟩=>thn (hb pins s1 σ H1 _ l i) fun u n ⟨y,H2,f,r2,j⟩=>
  thn (ho pins n σ H2 x y v u _ f r1 r2 j) fun c s3 ⟨z,H3,d,m,k,e,g⟩=>?_) hm
 subst e;cases m;exact wpAny_truthy_bool (Y3 H3 d g)
def TruV(K:PySem.W.Frag)(x:V)(H:Hp)(k:Bool):Prop:=
 match x with
 | .non=>k=false
 | .bl b=>k=b
 | .int i=>k=(i !=0)
 | .str y=>y.length<=sizeLine/\k=((y.length:Int) !=0)
 | .byt y=>y.size<=sizeLine/\k=((y.size:Int) !=0)
 | .ref p=>(∃xs,SqL K H p xs/\k= !xs.isEmpty)\/(∃xs,SqT K H p xs/\k= !xs.isEmpty)\/∃kvs,H p=some (.dK kvs)/\k= !kvs.isEmpty
 |_=>False
theorem md{kvs:List (κ×V)}{vs:List (κ×Value)}(r:KV kvs vs):(!vs.isEmpty)= !kvs.isEmpty:=by
 cases r<;>rfl
theorem i7{its:List Value}(r:Vals xs its):(!its.toArray.isEmpty)= !xs.isEmpty:=by
 cases r<;>simp
theorem fF:(sizeLine:Nat) < 2^63:=by rw[sizeLine_eq];decide
theorem vO:TruR X (fun x H Q=>∃k,TruV X.K x H k/\Q k H):=by
 intro pins s σ H x v Q I c h;obtain⟨k,e,q⟩:=h;have hl:=fF;have hs:sizeLine=16777216:=sizeLine_eq
 cases x with
 |non=>
  cases c;have e':k=false:=e;subst e';exact truthy_none (Y3 H I q)
 |bl b=>
  cases c;have e':k=b:=e;subst e';exact wpAny_truthy_bool (Y3 H I q)
 |int i=>
  obtain⟨t,rfl⟩:=c;have e':k=(i !=0):=e;subst e';exact PySem.P.truthy_int (Y3 H I q)
 |str y=>
  obtain⟨t,rfl⟩:=c;obtain⟨hy,e'⟩:y.length<=sizeLine/\k=((y.length:Int) !=0):=e;subst e';exact PySem.P.truthy_str (by omega) (Y3 H (I.tok _) q)
 |byt y=>
  obtain⟨t,rfl⟩:=c;obtain⟨hy,e'⟩:y.size<=sizeLine/\k=((y.size:Int) !=0):=e;subst e';exact PySem.W.truthy_bytes (by omega) (Y3 H (I.tok _) q)
 |ref p=>
  cases c;have e':(∃xs,SqL X.K H p xs/\k= !xs.isEmpty)\/(∃xs,SqT X.K H p xs/\k= !xs.isEmpty)\/∃kvs,H p=some (.dK kvs)/\k= !kvs.isEmpty:=e;rcases e' with⟨xs,hx,e'⟩|⟨xs,hx,e'⟩|⟨kvs,hx,e'⟩
  . subst e';obtain⟨its,r,pl,hz⟩:=I.list hx;have a:=r.length;exact wpAny_truthy_list pl.isList (by simp only[yX];omega) (Y3 H (I.tok _) (by rw[i7 r];exact q))
  . subst e';obtain⟨its,r,pl,hz⟩:=I.tuple hx;have a:=r.length;exact truthy_tuple pl (by simp only[yX];omega) (Y3 H (I.tok _) (by rw[i7 r];exact q))
  . subst e';obtain⟨hz,d,vs,r,m⟩:kvs.length<=sizeLine/\(p==sysModules)=false/\∃vs,KV kvs vs/\s.heap.DictOf (aO X.prog X.w) p vs:=I.hok p _ hx;have a:kvs.length=vs.length:=Paired.length r;exact wpAny_truthy_dict d m (by omega) (Y3 H (I.tok _) (by rw[md r];exact q))
 |_=>exact(show False from e).elim
theorem rK(ha:PE X a ta)(he:∀whole,isTrue a X.env whole=(do let v<-whole;standAt a.pos;holding [v] (truthy v))):
 PT X a (fun σ H Q=>ta σ H fun x H'=>∃k,TruV X.K x H' k/\Q k H'):=by
 intro pins s σ H Q I h;exact isTrue_plain (thn (ha pins s σ H _ I h) fun v s1 ⟨x,H1,b,r1,c⟩=>vO pins s1 σ H1 x v Q b r1 c) (he _)
theorem hX:OpR X (binaryOp .Add) (fun x y H Q=>∃i j,x= .str i/\y= .str j/\i.length+j.length<=sizeLine/\Q (.str (i++j)) H):=by
 intro pins s σ H x y v u Q I b a h;obtain⟨i,j,rfl,rfl,hz,q⟩:=h;obtain⟨t,rfl⟩:=b;obtain⟨t',rfl⟩:=a;exact add_str (fun t' tk=>⟨.str (i++j),H,I.tok _,⟨_,rfl⟩,q⟩) hz
theorem dh{x:V}(r:Vals [x] us):∃u,us= [u]/\RelV x u:=by
 cases r with
 |cons r1 r2=>cases r2;exact⟨_,rfl,r1⟩
theorem io:cj X (.builtin "abs") (fun xs H Q=>∃i,xs= [.int i]/\Q (.int (if i < 0 then -i else i)) H):=by
 intro pins s σ H xs us Q I r h;obtain⟨i,rfl,q⟩:=h;obtain⟨u,rfl,t,rfl⟩:=dh r;exact call_abs_int fun u tk=>⟨.int (if i < 0 then -i else i),H,I.tok _,⟨_,rfl⟩,q⟩
structure ObjM (h:Heap) (x dx C:Addr) (mA:Str->Option Value):Prop where
 obj:h.get? x=some (PySem.W.instObj C dx)
 ns:h.Ns1 dx mA
 ne:dx≠x
theorem p7(n:h.Ns1 dx mA):∃od,h.get? dx=some od/\∀name,PySem.W.lookIn name od=some (mA name):=by
 obtain⟨o,es,ep,ho,hd,hk,_,hm⟩:=n;refine Y3 o ho (fun name=>?_);have e:=hm name;unfold nsFind findBy at e;rw[<-Array.find?_toList]at e;unfold PySem.W.lookIn;rw[hd];dsimp only;split
 . rename_i y q;rw[q]at e;exact congrArg some e
 . rename_i q;rw[q]at e
   have a:es.toList.any (·.refKey)=false:=by
    rw[List.any_eq_false];intro y hy;obtain⟨z,t,b⟩:=hk y (Array.mem_toList_iff.mp hy);simp[DictEntry.refKey,b]
   have c:¬es.toList.any (·.refKey)=true:=by rw[a];exact zt
   rw[if_neg c];exact congrArg some e
theorem ObjM.look(I:ObjM h x dx C mA):∃od,PySem.W.InstAt h x (PySem.W.instObj C dx) C (some od)/\∀name,PySem.W.lookIn name od=some (mA name):=
 let ⟨od,ho,hl⟩:=p7 I.ns
 ⟨od,⟨I.obj,rfl,rfl,ho⟩,hl⟩
theorem uS{expr:Bool}(X:K.In s.heap)(I:ObjM s.heap x dx C mA)(hg:PySem.W.plainGet K C name=true)(hh:PySem.W.hasDictIn K C=true)(ha:PySem.W.findIn K (.ref C) name=some none)(hv:mA name=some v)(hv':PySem.W.handedIn v=true)(h:Q v {s with toks:=s.toks+1}):
 wpAny (model prog w) A (getAttr (.ref x) name expr) Q E s:=by
 obtain⟨a,J,hl⟩:=I.look;exact PySem.W.get_value X J (PySem.W.plainGet_of hg).1 (PySem.W.findObj_own hh ha rfl (by rw[hl,hv])) hv' h
theorem ui{ns:List Str}{Q:Unit->Shared->Prop}(X:K.In s.heap)(I:ObjM s.heap x dx C mA)(hs:PySem.W.findIn K (.ref C) "__setattr__"=some (some (.builtin "object.__setattr__")))(hp:PySem.W.plainOver K C=true)(ht:PySem.W.takerIn K C name=some none)(hh:PySem.W.hasDictIn K C=true)(hw:PySem.Within mA ns)(hsz:ns.length<=sizeLine)(h:∀h',ObjM h' x dx C (fun y=>if y=name then some v else mA y)->Heap.SameBut dx s.heap h'->Q () {s with heap:=h',toks:=s.toks+2}):
 wpAny (model prog w) A (setAttr (.ref x) name v) Q E s:=by
 obtain⟨n,J,hl⟩:=I.look;refine PySem.W.set_plain X J hs (PySem.W.osa_open (s:= {s with toks:=s.toks+1}) (r:=none) X J hp ht fun b=>?_);obtain⟨l,hc,i⟩:=PySem.W.any_some hh;have hx:s.heap.get? x=some ⟨.ref C,some dx, .plain, #[]⟩:=I.obj;refine wpAny_bind (wpAny_pure (wpAny_bind (wpAny_bind (wpAny_loadPart hx (wpAny_bind (PySem.W.Looks.here (s:= {s with toks:=s.toks+1}) (PySem.W.looks_clsIn X hc) ?_))))));rw[i];refine wpAny_pure (a:=some dx) (wpAny_bind (wpAny_pure (wpAny_bind ?_)));refine wpAny_nsSet1 (s:= {s with toks:=s.toks+1}) I.ns fun h' d c=>?_;obtain⟨m,k,j,g,f,e⟩:=d.count (PySem.Within.cons name v hw);refine wpAny_bind (wpAny_lookBehind g (by rw[f];exact pastItsLine_dict (z7 e (by rw[zg];omega))) ?_)
 exact wpAny_pure (h _ ⟨(c.2 _ (Ne.symm I.ne)).trans I.obj,d,I.ne⟩ c)
theorem sy{f:Addr}{R:Result->Shared->Prop}{vs:List Value}(X:K.In s.heap)(hm:PySem.W.makesIn K C=true)(hi:PySem.W.findIn K (.ref C) "__init__"=some (some (.ref f)))(hf:PySem.W.typeIn K (.ref f)=some (.type "function"))(h:codeAny (model prog w) (A.under (.builtin "type.__call__" ⟨.ref C::vs,kw⟩)) (.call (.ref f) ⟨.ref (s.heap.objs.size+1)::vs,kw⟩) (PySem.W.InitBack (s.heap.objs.size+1) R)
  {s with heap:=(s.heap.push PySem.W.emptyDict).push (PySem.W.instObj C s.heap.objs.size)}):
 codeAny (model prog w) A (.call (.ref C) ⟨vs,kw⟩) R s:=by
 obtain⟨hh,g,d,t,os⟩:=s;exact PySem.W.make_core (PySem.W.makes_of X hm) (PySem.W.looks_findIn X hi) (fun self=>PySem.W.bind_fn X self hf) (.inl rfl) h
noncomputable def putF(f:Str)(v:V):List (Str×V)->List (Str×V)
 | []=> [(f,v)]
 |(g,x)::r=>if g=f then(g,v)::r else(g,x)::putF f v r
theorem fS(f g:Str)(v:V):∀fs:List (Str×V),(putF f v fs).lookup g=if g=f then some v else fs.lookup g
 | []=>by
  show List.lookup g [(f,v)]=_;by_cases h:g=f
  . have hb:(g==f)=true:=beq_iff_eq.mpr h;simp only[List.lookup,hb,if_pos h]
  . have hb:(g==f)=false:=beq_eq_false_iff_ne.mpr h;simp only[List.lookup,hb,if_neg h]
 |(k,x)::r=>by
  have a:=fS f g v r;rw[show putF f v ((k,x)::r)=(if k=f then(k,v)::r else(k,x)::putF f v r)from rfl];by_cases hk:k=f
  . rw[if_pos hk];by_cases h:g=k
    . have hb:(g==k)=true:=beq_iff_eq.mpr h;simp only[List.lookup,hb,if_pos (h.trans hk)]
    . have hb:(g==k)=false:=beq_eq_false_iff_ne.mpr h;simp only[List.lookup,hb,if_neg (fun e:g=f=>h (e.trans hk.symm))]
  . rw[if_neg hk];by_cases h:g=k
    . have hb:(g==k)=true:=beq_iff_eq.mpr h;simp only[List.lookup,hb,if_neg (fun e:g=f=>hk (h.symm.trans e))]
    . have hb:(g==k)=false:=beq_eq_false_iff_ne.mpr h;simp only[List.lookup,hb];exact a
theorem fG(f:Str)(v:V):∀fs:List (Str×V),f∈(putF f v fs).map (·.1)/\∀g,g∈fs.map (·.1)->g∈(putF f v fs).map (·.1)
 | []=>⟨by simp[putF],fun g h=>by simp at h⟩
 |(k,x)::r=>by
  obtain⟨i1,i2⟩:=fG f v r;rw[show putF f v ((k,x)::r)=(if k=f then(k,v)::r else(k,x)::putF f v r)from rfl];by_cases hk:k=f
  . rw[if_pos hk];subst hk;exact⟨by simp,fun g h=>by simpa using h⟩
  . rw[if_neg hk];refine⟨?_,fun g h=>?_⟩
    . rw[zh];exact yU _ i1
    . rw[zh]at h ⊢;rcases yY.mp h with e|e
      . exact yY.mpr (.inl e)
      . exact yU _ (i2 g e)
theorem fV(f:Str)(v:V):∀fs:List (Str×V),(putF f v fs).length<=fs.length+1
 | []=>by simp[putF]
 |(k,x)::r=>by
  have a:=fV f v r;rw[show putF f v ((k,x)::r)=(if k=f then(k,v)::r else(k,x)::putF f v r)from rfl];by_cases hk:k=f
  . rw[if_pos hk,zg,zg];omega
  . rw[if_neg hk,zg,zg];omega
variable{v:V}{outer:List Env}{a:Addr}{base:Heap}{mg:Str->Option Value}
theorem RelO.some_of{o:Option Value}(r:RelO (some v) o):∃u,o=some u/\RelV v u:=by
 cases o with
 |none=>exact(show False from r).elim
 |some u=>exact⟨u,rfl,r⟩
theorem pk(r:RelV v u):PySem.W.handedIn u=true:=by
 cases v with
 |non=>cases (show u=Value.none from r);rfl
 |bl b=>cases (show u=Value.bool b from r);rfl
 |int i=>obtain⟨t,e⟩:=(show∃t,u=Value.int i t from r);cases e;rfl
 |str x=>obtain⟨t,e⟩:=(show∃t,u=Value.str x t from r);cases e;rfl
 |byt b=>obtain⟨t,e⟩:=(show∃t,u=Value.bytes b t from r);cases e;rfl
 |flt b=>obtain⟨t,e⟩:=(show∃t,u=Value.float b t from r);cases e;rfl
 |ref a=>cases (show u=Value.ref a from r);rfl
 |ty n=>cases (show u=Value.type n from r);rfl
theorem og{fs:List (Str×V)}(hok:HOk P w H h)(e:H a=some (.ins C dx fs)):∃mA,ObjM h a dx C mA/\(∀f,RelO (fs.lookup f) (mA f))/\PySem.Within mA (fs.map (·.1))/\fs.length<=1000/\H dx=some (.own a):=by
 obtain⟨d,z,ne,ob,mA,n,r,q⟩:=(show ObjOk P w H h a (.ins C dx fs)from hok a _ e);exact⟨mA,⟨ob,n,ne⟩,r,q,z,d⟩
structure Cls (K:PySem.W.Frag) (C:Addr):Prop where
 pg:PySem.W.plainGet K C Str.empty=true
 hd:PySem.W.hasDictIn K C=true
 po:PySem.W.plainOver K C=true
 sa:PySem.W.findIn K (.ref C) "__setattr__"=some (some (.builtin "object.__setattr__"))
theorem Cls.get(c:Cls K C)(f:Str):PySem.W.plainGet K C f=true:=c.pg
def NoAttr(K:PySem.W.Frag)(C:Addr)(f:Str):Prop:=PySem.W.findIn K (.ref C) f=some none
theorem NoAttr.taker(n:NoAttr K C f):PySem.W.takerIn K C f=some none:=by
 unfold PySem.W.takerIn;rw[show PySem.W.findIn K (.ref C) f=some none from n];rfl
theorem mj{fs:List (Str×V)}{b:Bool}(I:Inv X pins σ H s)(e:H a=some (.ins C dx fs))(c:Cls X.K C)(n:NoAttr X.K C f)(l:fs.lookup f=some v)(h:∀u s',Inv X pins σ H s'->RelV v u->Q u s'):wpAny (model X.prog X.w) A (getAttr (.ref a) f b) Q E s:=by
 obtain⟨mA,O,r,_,_,_⟩:=og I.hok e;obtain⟨u,hu,d⟩:=RelO.some_of (v:=v) (o:=mA f) (by rw[<-l];exact r f)
 exact uS I.kIn O (c.get f) c.hd n hu (pk d) (h u _ (I.tok _) d)
theorem lP{fs:List (Str×V)}{y:V}{Q:Unit->Shared->Prop}(I:Inv X pins σ H s)(e:H a=some (.ins C dx fs))(c:Cls X.K C)(n:NoAttr X.K C f)(hl:fs.length < 1000)(ry:RelV y u)(h:∀s',Inv X pins σ (upd H a (.ins C dx (putF f y fs))) s'->Q () s'):wpAny (model X.prog X.w) A (setAttr (.ref a) f u) Q E s:=by
 obtain⟨mA,O,r,wi,_,ho⟩:=og I.hok e;have hz:(fs.map (·.1)).length<=sizeLine:=by rw[yR,sizeLine_eq];omega
 refine ui I.kIn O c.sa c.po n.taker c.hd wi hz fun h' d sb=>h _ ?_;have hd:∃o,h'.get? dx=some o:=let ⟨o,_,_,e',_⟩:=d.ns;⟨o,e'⟩;refine I.write (x:=a) (e:=dx) (by rw[e];exact True.intro) (.inr ho) (fun b q hb z=>(sb.2 b hb).trans z) hd ?_
 refine⟨by rw[ae O.ne];exact ho,?_,O.ne,d.obj,Y8 _ d.ns (fun g=>?_) (fun g i=>?_)⟩
 . have:=fV f y fs;omega
 . show RelO ((putF f y fs).lookup g) (if g=f then some u else mA g);rw[fS];by_cases q:g=f
   . rw[if_pos q,if_pos q];exact ry
   . rw[if_neg q,if_neg q];exact r g
 . by_cases q:g=f
   . rw[q];exact(fG f y fs).1
   . refine(fG f y fs).2 g (wi g fun z=>i ?_);show(if g=f then some u else mA g)=none;rw[if_neg q];exact z
theorem Inv.made(I:Inv X pins σ H s):Inv X pins σ (upd (upd H s.heap.objs.size (.own (s.heap.objs.size+1))) (s.heap.objs.size+1) (.ins C s.heap.objs.size []))
 {s with heap:=(s.heap.push PySem.W.emptyDict).push (PySem.W.instObj C s.heap.objs.size)}:=by
 have e1:(s.heap.push PySem.W.emptyDict).get? s.heap.objs.size=some PySem.W.emptyDict:=Heap.get?_push_size s.heap rfl
 have c:((s.heap.push PySem.W.emptyDict).push (PySem.W.instObj C s.heap.objs.size)).get? (s.heap.objs.size+1)=some (PySem.W.instObj C s.heap.objs.size):=by
  have:=Heap.get?_push_size (s.heap.push PySem.W.emptyDict) (o:=PySem.W.instObj C s.heap.objs.size) rfl
  rwa [Heap.size_push]at this
 have d:(s.heap.push PySem.W.emptyDict).Ns s.heap.objs.size (fun _=>none):=⟨PySem.W.emptyDict, #[],_,e1,rfl,(fun e he=>absurd he (by simp)),fun _=>rfl⟩
 have f:=I.laid (a:=s.heap.objs.size) (o:= .own (s.heap.objs.size+1)) (h':=s.heap.push PySem.W.emptyDict) (t':=s.toks) (fun b u q=>Heap.get?_push_of_some _ q) (yV _) ⟨_,e1⟩;refine f.laid (a:=s.heap.objs.size+1) (o:= .ins C s.heap.objs.size []) (t':=s.toks) (fun b u q=>Heap.get?_push_of_some _ q) (Nat.le_of_eq (Heap.size_push _ _)) ?_;have ne:s.heap.objs.size≠s.heap.objs.size+1:=zo (zG _);refine⟨by rw[ae ne,a8],zc _,ne,c,fun _=>none,(Heap.Ns1.of_empty d).at fun o q=>Heap.get?_push_of_some _ q,fun _=>True.intro,fun y hy=>absurd rfl hy⟩
theorem vc{env:Env}{pos:Pos}(hb:attributeBase e f env (eval e env)=eval e env)(h:wpAny (model prog w) A (eval e env) (fun o s₁=>wpAny (model prog w) A (getAttr o f true) Q E s₁) E s):wpAny (model prog w) A (eval (.Attribute e f pos) env) Q E s:=
 Attribute_any_ h (by rw[arm_eval_Attribute,hb])
def tFld(K:PySem.W.Frag)(ta:TE)(f:Str):TE:=fun σ H Q=>ta σ H fun x H1=>∃a C dx fs v,x= .ref a/\H1 a=some (.ins C dx fs)/\Cls K C/\NoAttr K C f/\fs.lookup f=some v/\Q v H1
def sFld(K:PySem.W.Frag)(ta tv:TE)(f:Str):TS:=fun D σ H=>tv σ H fun y H1=>ta σ H1 fun x H2=>∃a C dx fs,x= .ref a/\H2 a=some (.ins C dx fs)/\Cls K C/\NoAttr K C f/\fs.length < 1000/\
 D.nx σ (upd H2 a (.ins C dx (putF f y fs)))
theorem aI{pos:Pos}(he:PE X e ta)(hb:attributeBase e f X.env (eval e X.env)=eval e X.env):PE X (.Attribute e f pos) (tFld X.K ta f):=by
 intro pins s σ H Q I h;refine vc hb (thn (he pins s σ H _ I h) fun u s1 ⟨x,H1,i,j,a,C,dx,fs,v,ex,d,c,n,l,q⟩=>?_);subst ex;obtain rfl:u=Value.ref a:=j;exact mj i d c n l fun u' k b g=>Y5 v H1 b g q
theorem dz{o value:Expr}{pos:Pos}{tv:TE}(ha:PE X o ta)(hv:PE X value tv)(hs:swapsWith value (some (.Attribute o f pos')) pos.line X.env=pure false):PS X (.Assign [.Attribute o f pos'] value pos) (sFld X.K ta tv f):=by
 intro pins s σ H D I h;refine plainObj_wpAny_Assign_Attribute (thn (hv pins s σ H _ I h) fun u s1 ⟨y,H1,i,j,q⟩=>thn (ha pins s1 σ H1 _ i q) fun ov m ⟨x,H2,d,k,a,C,dx,fs,ex,e,c,n,l,g⟩=>?_) hs;subst ex;obtain rfl:ov=Value.ref a:=k;exact lP d e c n l j fun s3 b=>U3 σ _ b g
structure Room (k:Nat) (A:Around):Prop where
 hd:A.handled=none
 dp:A.depth+3*k+5 < recursionLimit
 un:A.units+16*k+200 < cLine
 gd:A.guards=some []
theorem Room.mono{k:Nat}(r:Room k A)(h:j<=k):Room j A:=⟨r.hd,by have:=r.dp;omega,by have:=r.un;omega,r.gd⟩
theorem Room.deeper{k:Nat}{A:Around}(r:Room (k+1) A)(env:Env):Room k (A.deeper env):=
 ⟨r.hd,by have:=r.dp;show A.depth+1+3*k+5 < _;omega,by have:=r.un;show A.units+3+16*k+200 < _;omega,by first|exact r.gd|(have:=r.gd;simpa [Around.deeper,Around.under]using this)⟩
theorem lY:(A.under (.builtin "type.__call__" ⟨.ref C::us,kw⟩)).depth=A.depth+1:=by
 first|rfl|simp[Around.under,Code.weight,Code.isCreation,Code.isGuard,Code.isCaller,Code.frames,Code.isFrame,guardIds]
theorem lX:(A.under (.builtin "type.__call__" ⟨.ref C::us,kw⟩)).units=A.units+1:=by
 first|rfl|simp[Around.under,Code.cUnits,Code.frames,Code.isFrame]
theorem Room.make{k:Nat}(r:Room (k+1) A)(C:Addr)(us:List Value)(kw:List (Str×Value)):Room k (A.under (.builtin "type.__call__" ⟨.ref C::us,kw⟩)):=
 ⟨r.hd,by have:=r.dp;rw[lY];omega,by have:=r.un;rw[lX];omega,by have:=r.gd;simp[Around.under,Code.guards,Code.isGuard,guardIds,pushGuards,this]⟩
theorem Room.depth{k:Nat}(r:Room k A):A.depth < recursionLimit:=by have:=r.dp;omega
theorem Room.units{k:Nat}(r:Room k A):A.units+64 < cLine:=by have:=r.un;omega
def tNil:TA:=fun _ H Q=>Q [] H
def cg(ta:TE)(tr:TA):TA:=fun σ H Q=>ta σ H fun x H1=>tr σ H1 fun xs H2=>Q (x::xs) H2
theorem a9:PA X [] tNil:=fun _ _ _ _ H Q I h=>Calls.spliced_nil ⟨[],H,I, .nil,h⟩
theorem a7(ha:PE X e te)(hr:PA X es t)(hs:starEach (e::es) X.env=(false,eval e X.env)::starEach es X.env:=by rfl):PA X (e::es) (cg te t):=by
 intro pos pins s σ H Q I h;rw[hs];show wpAny _ _ (spliced ((false,eval e X.env)::backTo pos (starEach es X.env))) _ _ s;refine Calls.spliced_cons (thn (ha pins s σ H _ I h) fun u s1 ⟨x,H1,d,r1,b⟩=>?_);exact thn (hr pos pins s1 σ H1 _ d b) fun us f ⟨xs,H2,a,r2,c⟩=>Y5 (x::xs) H2 a (.cons r1 r2) c
def tTup(t:TA):TE:=fun σ H Q=>t σ H fun xs H1=>xs.length<=sizeLine/\∀p,H1 p=none->Q (.ref p) (upd H1 p (.tup xs))
def tLst(t:TA):TE:=fun σ H Q=>t σ H fun xs H1=>xs.length<=sizeLine/\∀p,H1 p=none->Q (.ref p) (upd H1 p (.lst xs))
theorem aX{pos:Pos}{x1}(h:PA X es t):PE X (.Tuple es x1 pos) (tTup t):=by
 intro pins s σ H Q I hq;refine wpAny_Tuple_spliced (thn (h pos pins s σ H _ I hq) fun us s1 ⟨xs,H1,a,r,z,q⟩=>⟨by rw[<-r.length];exact z,?_⟩)
 have c:H1 s1.heap.objs.size=none:=a.hok.fresh (yV _);refine⟨.ref s1.heap.objs.size,upd H1 s1.heap.objs.size (.tup xs),a.laid (t':=s1.toks) (fun b u e=>Heap.get?_push_of_some _ e) (yV _) ?_,rfl,q _ c⟩;exact⟨z,us,r,⟨_,Heap.get?_push_size _ rfl,rfl,_,rfl⟩⟩
theorem bW{pos:Pos}(h:PA X es t):PE X (.List es pos) (tLst t):=by
 intro pins s σ H Q I hq;refine wpAny_List_spliced (thn (h pos pins s σ H _ I hq) fun us s1 ⟨xs,H1,a,r,z,q⟩=>⟨by rw[<-r.length];exact z,?_⟩)
 have c:H1 s1.heap.objs.size=none:=a.hok.fresh (yV _);refine⟨.ref s1.heap.objs.size,upd H1 s1.heap.objs.size (.lst xs),a.laid (t':=s1.toks) (fun b u e=>Heap.get?_push_of_some _ e) (yV _) ?_,rfl,q _ c⟩;exact⟨z,us,0,r,Heap.get?_push_size _ rfl⟩
abbrev Sp:=List V->Hp->VK->XK->Prop
abbrev CXT:=List Env->Hp->Shared->XK->Value->Shared->Prop
structure Env0 (P:Program) (w:World) (K:PySem.W.Frag) (mg:Str->Option Value) (base:Heap) (A:Around) (outer:List Env) (s:Shared) (H:Hp):Prop where
 frames:A.frames=some outer
 mod:Mod K mg base
 bs:∀b o,base.get? b=some o->s.heap.get? b=some o/\Idl (H b)
 bsz:base.objs.size<=s.heap.objs.size
 funs:s.heap.FunFrames base outer
 frf:∀b∈frs outer,H b=none
 hok:HOk P w H s.heap
 bare:AllBare s.gens
def CE(outer:List Env)(P:Program)(w:World)(H:Hp)(s:Shared)(Q:VK)(u:Value)(s':Shared):Prop:=
 ∃v H',s'.os=s.os/\AllBare s'.gens/\Un (frs outer) [] H H' s.heap s'.heap/\HOk P w H' s'.heap/\RelV v u/\Q v H'
def CR(CX:CXT)(outer:List Env)(P:Program)(w:World)(H:Hp)(s:Shared)(Q:VK)(E:XK)(r:Result)(s':Shared):Prop:=
 match r with
 | .ok (.ret u)=>CE outer P w H s Q u s'
 | .ok _=>False
 | .error e=>CX outer H s E e s'
structure FnOk (P:Program) (w:World) (K:PySem.W.Frag) (mg:Str->Option Value) (base:Heap) (CX:CXT) (k:Nat) (f:Addr) (fd:FuncData) (ps:List Str) (sp:Sp):Prop where
 len:∀vs H Q E,sp vs H Q E->vs.length=ps.length
 run:∀(A:Around) (outer:List Env) (s:Shared) (H:Hp) (args:Args) (us:List Value) (vs:List V) (Q:VK) (E:XK),Room k A->Env0 P w K mg base A outer s H->BindsTo s fd args (ps.zip us)->Vals vs us->sp vs H Q E->
  codeAny (model P w) A (.call (.ref f) args) (CR CX outer P w H s Q E) s
theorem Env0.make(e:Env0 P w K mg base A outer s H)(C:Addr)(us:List Value)(kw:List (Str×Value)):
 Env0 P w K mg base (A.under (.builtin "type.__call__" ⟨.ref C::us,kw⟩)) outer s H:=⟨by first|exact e.frames|(simpa [Around.under,Code.envs,Code.isFrame,pushEnvs]using e.frames),e.mod,e.bs,e.bsz,e.funs,e.frf,e.hok,e.bare⟩
theorem Inv.env0(I:Inv X pins σ H s):Env0 X.prog X.w X.K X.mg X.base X.A X.stack s H:=
 ⟨I.ok.frames,I.ok.mod,I.bs,z7 I.ok.bsz I.sz,I.stack,I.stkFree,I.hok,I.bare⟩
variable{CX:CXT}{sp:Sp}{Q:VK}{E:XK}{dvs:List V}{r:List V->Hp->VK->Prop}{ps:List Str}{ds:List Value}{f:Addr}{fd:FuncData}{scope:Scope}{x qual:Str}
theorem Inv.after(I:Inv X pins σ H s)(h:CE X.stack X.prog X.w H s Q u s'):EP X pins σ Q u s':=by
 obtain⟨v,H',os,bare,un,hok,r,q⟩:=h;obtain⟨hh,g,d,t,a⟩:=s';obtain rfl:a=s.os:=os;exact⟨v,H',I.call (h':=hh) (g':=g) (d':=d) (t':=t) (ch:= []) un hok bare (fun b z=>absurd z (by simp)),r,q⟩
def mS(sp:Sp)(dvs:List V)(E:XK)(t:TA):TE:=fun σ H Q=>t σ H fun vs H1=>sp (vs++dvs) H1 Q E
def xX(C:Addr)(sp:Sp)(dvs:List V)(E:XK)(t:TA):TE:=fun σ H Q=>t σ H fun vs H1=>∀x dx,H1 x=none->H1 dx=none->dx≠x->
 sp (.ref x::(vs++dvs)) (upd (upd H1 dx (.own x)) x (.ins C dx [])) (fun v H2=>v= .non/\Q (.ref x) H2) E
def Binds(K:PySem.W.Frag)(fd:FuncData)(ps:List Str)(ds:List Value):Prop:=
 ∀(s:Shared) (us:List Value),K.In s.heap->(us++ds).length=ps.length->BindsTo s fd ⟨us,[]⟩ (ps.zip (us++ds))
theorem Binds.all(h:∀us:List Value,us.length=ps.length->bindArgs fd ⟨us,[]⟩=pure (ps.zip us)):Binds K fd ps []:=fun s us _ hl=>by
 rw[Aw]at hl ⊢;exact .of_eq (h us hl)
def iw(CX:CXT)(X:Cx)(E:XK):Prop:=∀(pins:List (Addr×Obj)) (σ:St) (H:Hp) (s:Shared) (e:Value) (s':Shared),Inv X pins σ H s->CX X.stack H s E e s'->X.xe e s'
theorem vX{k:Nat}(F:FnOk X.prog X.w X.K X.mg X.base CX k f fd ps sp)(hr:Room k X.A)(hb:Binds X.K fd ps ds)(hd:Vals dvs ds)(hx:iw CX X E)(I:Inv X pins σ H s)(r:Vals vs us)(h:sp (vs++dvs) H Q E):wpAny (model X.prog X.w) X.A (call (.ref f) us) (EP X pins σ Q) X.xe s:=by
 have r2:Vals (vs++dvs) (us++ds):=r.append hd;have hl:(us++ds).length=ps.length:=by rw[<-r2.length];exact F.len _ _ _ _ h
 refine wpAny_call (codeAny_mono (F.run X.A X.stack s H ⟨us,[]⟩ (us++ds) (vs++dvs) Q E hr I.env0 (hb s us I.kIn hl) r2 h) fun r s' hq=>?_)
 cases r with
 |error e=>exact hx pins σ H s e s' I hq
 |ok fl=>
  cases fl with
  |ret u=>exact I.after hq
  |next=>exact False.elim hq
  |brk=>exact False.elim hq
  |cont=>exact False.elim hq
theorem fc{k:Nat}{pos:Pos}(F:FnOk X.prog X.w X.K X.mg X.base CX k f fd ps sp)(hr:Room k X.A)(hg:Gl X x)(hm:X.mg x=some (.ref f))(hk:PySem.W.keepIn X.K (.ref f)=true)(hb:Binds X.K fd ps ds)(hd:Vals dvs ds)(hx:iw CX X E)(ha:PA X (e::es) t)(hdb:(x==("__debug__":Str))=false:=by decide)(he:starEach (e::es) X.env=(false,eval e X.env)::starEach es X.env:=by rfl)(hpl:(backTo pos (starEach es X.env)).any (·.1)=false:=by rfl):
 PE X (.Call (.Name x p) (e::es) [] pos) (mS sp dvs E t):=by
 intro pins s σ H Q I h;refine wpAny_Call_Name_kw (nZ I hg hm ?_ hdb);refine PySem.W.callWith_K (h₀:=X.base) I.ok.mod.kin hk (thn (ha pos pins s σ H _ I h) fun us s1 ⟨vs,H1,a,r,q⟩=>⟨a.kIn,?_⟩) he hpl;exact vX F hr hb hd hx a r q
structure Mk (K:PySem.W.Frag) (C f:Addr):Prop where
 makes:PySem.W.makesIn K C=true
 init:PySem.W.findIn K (.ref C) "__init__"=some (some (.ref f))
 fn:PySem.W.isFn K (.ref f)=true
 kp:PySem.W.keepIn K (.ref C)=true
theorem rB{k:Nat}(M:Mk X.K C f)(F:FnOk X.prog X.w X.K X.mg X.base CX k f fd ps sp)(hr:Room (k+1) X.A)(hb:Binds X.K fd ps ds)(hd:Vals dvs ds)(hx:iw CX X E)(I:Inv X pins σ H s)(r:Vals vs us)(h:∀x dx,H x=none->H dx=none->dx≠x->sp (.ref x::(vs++dvs)) (upd (upd H dx (.own x)) x (.ins C dx [])) (fun v H2=>v= .non/\Q (.ref x) H2) E):
 wpAny (model X.prog X.w) X.A (call (.ref C) us) (EP X pins σ Q) X.xe s:=by
 have hq:=h (s.heap.objs.size+1) s.heap.objs.size (I.hok.fresh (Nat.le_succ _)) (I.hok.fresh (yV _)) (zo (zG _));have b:=Inv.made (C:=C) I;have r2:Vals (V.ref (s.heap.objs.size+1)::(vs++dvs)) (Value.ref (s.heap.objs.size+1)::(us++ds)):= .cons rfl (r.append hd)
 have hl:(Value.ref (s.heap.objs.size+1)::us++ds).length=ps.length:=by
  have e:=r2.length;rw[F.len _ _ _ _ hq]at e;exact e.symm
 refine wpAny_call (sy (f:=f) I.kIn M.makes M.init (beq_iff_eq.mp M.fn) (codeAny_mono (F.run _ X.stack _ _ ⟨Value.ref (s.heap.objs.size+1)::us,[]⟩ (Value.ref (s.heap.objs.size+1)::(us++ds)) _ _ E (hr.make C us [])
  (b.env0.make C us []) (hb _ (Value.ref (s.heap.objs.size+1)::us) b.kIn hl) r2 hq) fun r s' a=>?_))
 cases r with
 |error e=>exact hx pins σ _ _ e s' b a
 |ok fl=>
  cases fl with
  |ret u=>
   obtain⟨v,H',c,rv,d,g⟩:=b.after a;subst d;exact⟨rv,(Y5 (V.ref (s.heap.objs.size+1)) H' c rfl g)⟩
  |next=>exact False.elim a
  |brk=>exact False.elim a
  |cont=>exact False.elim a
theorem uw{k:Nat}{pos:Pos}(M:Mk X.K C f)(F:FnOk X.prog X.w X.K X.mg X.base CX k f fd ps sp)(hr:Room (k+1) X.A)(hg:Gl X x)(hm:X.mg x=some (.ref C))(hb:Binds X.K fd ps ds)(hd:Vals dvs ds)(hx:iw CX X E)(ha:PA X (e::es) t)(hdb:(x==("__debug__":Str))=false:=by decide)(he:starEach (e::es) X.env=(false,eval e X.env)::starEach es X.env:=by rfl)(hpl:(backTo pos (starEach es X.env)).any (·.1)=false:=by rfl):
 PE X (.Call (.Name x p) (e::es) [] pos) (xX C sp dvs E t):=by
 intro pins s σ H Q I h;refine wpAny_Call_Name_kw (nZ I hg hm ?_ hdb);refine PySem.W.callWith_K (h₀:=X.base) I.ok.mod.kin M.kp (thn (ha pos pins s σ H _ I h) fun us s1 ⟨vs,H1,a,r,q⟩=>⟨a.kIn,?_⟩) he hpl;exact rB M F hr hb hd hx a r q
structure FnScope (N P:List Str) (sc:Scope):Prop where
 kind:sc.kind= .function
 co:sc.isCoroutine=false
 gen:sc.isGenerator=false
 nd:N.Nodup
 pre:N.take P.length=P
 par:∀x∈P,sc.names.lookup x=some .local\/sc.names.lookup x=some .cell
 nofree:∀y∈sc.names,y.2≠ .free
theorem iX{kindOf:Str->Option NameKind}{x:Str}:∀ {binds:List (Str×Value)} {m:Str->Option Value},(∀v,(x,v)∉binds)->bindL kindOf binds m x=m x
 | [],_,_=>rfl
 |(n,v)::r,m,h=>by
  unfold bindL;rw[iX fun w hw=>h w (yU _ hw)];split
  . have:x≠n:=by rintro rfl;exact h v yT
    simp[this]
  . rfl
theorem iZ{kindOf:Str->Option NameKind}{x:Str}:∀ {binds:List (Str×Value)} {m:Str->Option Value},(∀v,(x,v)∉binds)->bindC kindOf binds m x=m x
 | [],_,_=>rfl
 |(n,v)::r,m,h=>by
  unfold bindC;rw[iZ fun w hw=>h w (yU _ hw)];split
  . rfl
  . have:x≠n:=by rintro rfl;exact h v yT
    simp[this]
theorem iY{kindOf:Str->Option NameKind}{x:Str}{v:Value}:∀ {P:List Str} {vs:List Value} {i:Nat} {m:Str->Option Value},P.Nodup->P[i]?=some x->vs[i]?=some v->kindOf x=some .local->
 bindL kindOf (P.zip vs) m x=some v
 | [],_,_,_,_,h,_,_=>by simp at h
 |_::_,[],_,_,_,_,h,_=>by simp at h
 |p::P,w::vs,0,m,nd,h1,h2,hk=>by
  simp at h1 h2;subst h1;subst h2;show bindL kindOf ((p,w)::P.zip vs) m p=_;unfold bindL;rw[iX fun v hv=>(Ab.mp nd).1 (List.of_mem_zip hv).1,if_pos hk];simp
 |p::P,w::vs,i+1,m,nd,h1,h2,hk=>by
  show bindL kindOf ((p,w)::P.zip vs) m x=_;unfold bindL;exact iY (i:=i) (Ab.mp nd).2 (by simpa using h1) (by simpa using h2) hk
theorem j0{kindOf:Str->Option NameKind}{x:Str}{v:Value}:∀ {P:List Str} {vs:List Value} {i:Nat} {m:Str->Option Value},P.Nodup->P[i]?=some x->vs[i]?=some v->kindOf x≠some .local->
 bindC kindOf (P.zip vs) m x=some v
 | [],_,_,_,_,h,_,_=>by simp at h
 |_::_,[],_,_,_,_,h,_=>by simp at h
 |p::P,w::vs,0,m,nd,h1,h2,hk=>by
  simp at h1 h2;subst h1;subst h2;show bindC kindOf ((p,w)::P.zip vs) m p=_;unfold bindC;rw[iZ fun v hv=>(Ab.mp nd).1 (List.of_mem_zip hv).1,if_neg hk];simp
 |p::P,w::vs,i+1,m,nd,h1,h2,hk=>by
  show bindC kindOf ((p,w)::P.zip vs) m x=_;unfold bindC;exact j0 (i:=i) (Ab.mp nd).2 (by simpa using h1) (by simpa using h2) hk
noncomputable def start(N:List Str)(vs:List V):St:=vs.map some++List.replicate (N.length - vs.length) none
noncomputable def cxOf(CX:CXT)(P:Program)(w:World)(K:PySem.W.Frag)(mg:Str->Option Value)(base:Heap)(N:List Str)(qual:Str)(scope:Scope)(f:Addr)(cd:Value)(A:Around)(outer:List Env)(s:Shared)(H:Hp)(E:XK):Cx where
 prog:=P
 w:=w
 K:=K
 mg:=mg
 base:=base
 A:=A.deeper (envOfC qual scope s.heap.objs.size f cd)
 N:=N
 s₀:=s
 H₀:=H
 env:=envOfC qual scope s.heap.objs.size f cd
 outer:=outer
 stack:=envOfC qual scope s.heap.objs.size f cd::outer
 ex:= []
 calm:=true
 fn:=fun _=>true
 pn:= []
 xe:=fun e s'=>wpAny (model P w) (A.deeper (envOfC qual scope s.heap.objs.size f cd)) (leaving (envOfC qual scope s.heap.objs.size f cd) e) (fun _ s''=>CX outer H s E e s'') (fun e' s''=>CX outer H s E e' s'') s'
theorem lg{sc:Scope}(h:sc.names.lookup x=some .cell):∃c,(cellsFrom n sc.names []).lookup x=some c:=by
 have q:=PySem.W.cellsFrom_some sc.names n [] (.inl h);exact Option.isSome_iff_exists.mp q
theorem pf{cd:Value}{s1:Shared}(S:FnScope N ps scope)(hd:A.handled=none)(e0:Env0 P w K mg base A outer s H)(hl:vs.length=ps.length)(r:Vals vs us)(x:InCallC s s.heap.objs.size (bindL (envOfC qual scope s.heap.objs.size f cd).kindOf (ps.zip us) fun _=>none) (cellsFrom (s.heap.objs.size+1) scope.names []) (bindC (envOfC qual scope s.heap.objs.size f cd).kindOf (ps.zip us) fun _=>none) s1):
 Inv (cxOf CX P w K mg base N qual scope f cd A outer s H E) [] (start N vs) H s1:=by
 have j:ps.length<=N.length:=by have:=congrArg List.length S.pre;rw[zv]at this;omega
 obtain⟨h1,tk,rfl,hk⟩:=x.done;have d:∀b:Addr,b∉(cxOf CX P w K mg base N qual scope f cd A outer s H E).ex:=fun b z=>absurd (show b∈([]:List Addr)from z) (by simp)
 refine⟨⟨e0.mod,S.kind,rfl,rfl,yV _,fun y z c h1 h2=>?_,fun y hy=>?_,fun y c _ h=>?_,fun _=>hd,Around.frames_deeper e0.frames, .inr ⟨rfl,rfl⟩,fun b z=>absurd z (d b),e0.bs,e0.bsz,fun b _ _=>d b,fun b z=>absurd z (d b),e0.funs,e0.frf⟩,
  rfl,e0.bare,Un.kept hk,(Y3 _ x.toInCall.ns (fun i y v h1 h2 h3=>?_)),fun y c h=>⟨_,x.cell y c h⟩,e0.hok.fresh (yV _),fun y c h=>?_,fun p hp=>absurd (show p∈([]:List (Addr×Obj))from hp) (by simp),e0.hok.kept hk,?_⟩
 . exact name_of_addr x.apart (PySem.mem_of_lookup h1) (PySem.mem_of_lookup h2)
 . have hy:scope.names.lookup y=some .cell\/scope.names.lookup y=some .free:=hy;rcases hy with hy|hy
   . exact lg hy
   . exact absurd rfl (S.nofree _ (PySem.mem_of_lookup hy))
 . exact Nat.le_of_lt (x.above y c (PySem.mem_of_lookup h))
 . have hi:i < vs.length:=by
    unfold start at h2;by_cases hi:i < vs.length
    . exact hi
    . rw[Aq (by simpa using hi)]at h2
      rw[List.getElem?_replicate]at h2;split at h2<;>cases h2
   have ha:vs[i]?=some v:=by
    unfold start at h2;rw[As (by simpa using hi),yW]at h2
    cases e:vs[i]? with
    |none=>rw[e]at h2;cases h2
    |some a=>rw[e]at h2;cases h2;rfl
   obtain⟨u,hu,rv⟩:=r.get ha
   have hp:ps[i]?=some y:=by
    rw[<-S.pre,List.getElem?_take_of_lt (by omega)];exact h1
   have g:ps.Nodup:=by rw[<-S.pre];exact S.nd.sublist (List.take_sublist _ _)
   refine Y3 u rv ?_;rcases S.par y (z5 hp)with k|k
   . exact .inl ⟨k,iY g hp hu k⟩
   . obtain⟨c,e⟩:=lg (n:=s.heap.objs.size+1) k;refine .inr ⟨.inl k,Y3 c e ?_⟩;have q:=x.cell y c e;rw[j0 g hp hu (by show scope.names.lookup y≠_;rw[k];decide)]at q
     exact q
 . exact e0.hok.fresh (Nat.le_of_lt (x.above y c (PySem.mem_of_lookup h)))
 . unfold start;show _=N.length;rw[zj,yR,List.length_replicate];omega
theorem vJ{k:Nat}{params:Arguments}{dV kV doc pm cdv ct oc:Value}{an od:Option Addr}{osl:Array (Option Value)}(lk:K.lookup f=some ⟨oc,od, .func (PySem.W.fnOf name qual params body scope dV kV doc pm an cdv ct),osl⟩)(hcd:PySem.W.codeIn K cdv qual=true)(S:FnScope N ps scope)(len:∀vs H Q E,sp vs H Q E->vs.length=ps.length)(hbody:∀(A:Around) (outer:List Env) (s:Shared) (H:Hp) (vs:List V) (Q:VK) (E:XK),Room k (A.deeper (envOfC qual scope s.heap.objs.size f cdv))->sp vs H Q E->
  ∃t,PSs (cxOf CX P w K mg base N qual scope f cdv A outer s H E) body t/\t {nx:=fun _ H'=>Q .non H',rt:=Q} (start N vs) H):
 FnOk P w K mg base CX (k+1) f (PySem.W.fnOf name qual params body scope dV kV doc pm an cdv ct) ps sp:=by
 refine⟨len,fun A outer s H args us vs Q E hr c hb r d=>?_⟩;have hl:=len _ _ _ _ d;have g:K.In s.heap:=c.mod.kin.keeps fun b o e=>(c.bs b o e).1;have lim:s.heap.NoLimit:=c.mod.nolimit.keeps fun b o e=>(c.bs b o e).1
 have a:∀y∈ps.zip us,scope.names.lookup y.1=some .local\/(scope.names.lookup y.1=some .cell/\((cellsFrom (s.heap.objs.size+1) scope.names []).lookup y.1).isSome=true):=fun⟨n,v⟩ hy=>by
  rcases S.par n (List.of_mem_zip hy).1 with q|q
  . exact .inl q
  . exact .inr ⟨q,PySem.W.cellsFrom_some _ _ _ (.inl q)⟩
 refine codeAny_call_function hr.depth (g _ _ lk) rfl S.co S.gen rfl (PySem.W.codeRec_of g hcd) (hb _ _ _ _ ?_);refine wpAny_newFunctionEnv_cells S.kind a fun env he s1 x=>?_;subst he;refine⟨lim.keeps x.toInCall.keep,codeAny_func ?_⟩;obtain⟨t,ht,hq⟩:=hbody A outer s H vs Q E (hr.deeper _) d;have I:Inv (cxOf CX P w K mg base N qual scope f cdv A outer s H E) [] (start N vs) H s1:=pf S hr.hd c hl r x;refine wpAny_mono (ht [] s1 (start N vs) H _ I hq) (fun fl s' hs=>?_) fun e s' hs=>hs
 have fin:∀ {σ':St} {H':Hp} {v:V} {u:Value},Inv (cxOf CX P w K mg base N qual scope f cdv A outer s H E) [] σ' H' s'->RelV v u->Q v H'->CE outer P w H s Q u s':=
  fun{σ' H' v u} J rv q=>Y4 v H' ⟨J.os,J.bare,J.base,J.hok,rv,q⟩
 cases fl with
 |ret u=>
  obtain⟨v,σ',H',J,rv,q⟩:=hs;exact fin J rv q
 |next=>
  obtain⟨σ',H',J,q⟩:=hs;exact fin (v:=V.non) (u:=Value.none) J rfl q
 |brk=>
  obtain⟨_,_,_,q⟩:=hs;exact False.elim q
 |cont=>
  obtain⟨_,_,_,q⟩:=hs;exact False.elim q
def tCB(r:List V->Hp->VK->Prop)(t:TA):TE:=fun σ H Q=>t σ H fun vs H1=>r vs H1 Q
theorem aG{pos:Pos}{id:String}(hc:cj X (.builtin id) r)(hg:Gl X x)(hm:X.mg x=none)(hv:bootBuiltins x=some (.builtin id))(ha:PA X (e::es) t)(hn:x≠"__name__":=by decide)(hdb:(x==("__debug__":Str))=false:=by decide)(he:starEach (e::es) X.env=(false,eval e X.env)::starEach es X.env:=by rfl)(hpl:(backTo pos (starEach es X.env)).any (·.1)=false:=by rfl):PE X (.Call (.Name x p) (e::es) [] pos) (tCB r t):=by
 intro pins s σ H Q I h;refine wpAny_Call_Name_kw (dB I hg hm hv ?_ hn hdb);exact PyProof.Rows.callWith_builtin1 (thn (ha pos pins s σ H _ I h) fun us s1 ⟨vs,H1,a,r1,b⟩=>hc pins s1 σ H1 vs us Q a r1 b) he hpl
theorem bO{pos:Pos}{T:String}(hc:cj X (.type T) r)(hg:Gl X x)(hm:X.mg x=none)(hv:bootBuiltins x=some (.type T))(ha:PA X (e::es) t)(hn:x≠"__name__":=by decide)(hdb:(x==("__debug__":Str))=false:=by decide)(he:starEach (e::es) X.env=(false,eval e X.env)::starEach es X.env:=by rfl)(hpl:(backTo pos (starEach es X.env)).any (·.1)=false:=by rfl):PE X (.Call (.Name x p) (e::es) [] pos) (tCB r t):=by
 intro pins s σ H Q I h;refine wpAny_Call_Name_kw (dB I hg hm hv ?_ hn hdb);exact PyProof.Rows.callWith_type1 (thn (ha pos pins s σ H _ I h) fun us s1 ⟨vs,H1,a,r1,b⟩=>hc pins s1 σ H1 vs us Q a r1 b) he hpl
end L2
section
variable{XP:(PySem.Str->Option PySem.Value)->PySem.Heap->Prop}{osl:Array (Option PySem.Value)}{items items2 ps:Array PySem.Value}{fin:Bool}{M MM most p' t u' v' x' y y' z z':Int}{X:L2.Cx}{Z:L2.Ends}{H H' H1 H2 H5 H7:L2.Hp}{sp:L2.Sp}{rest σ:L2.St}{ta:L2.TA}{td te tk tl tv tx:L2.TE}{wi:L2.TI}{u:L2.TS}{tc:L2.TT}{v:L2.V}{q:List (Bool×Bool)}{mp:List (Option Nat)}{pins:List (PySem.Addr×PySem.Obj)}{ns scs:List Int}{acc vs ws xs ys:List L2.V}{r1 r2:List L2.V->L2.Hp->L2.VK->Prop}{fp:List PySem.Addr}{es ifs:List PySem.Expr}{N NC:List PySem.Str}{as its:List PySem.Value}{C J S Y ep i j kk line m m0 mm n n' n2 o q' r' src t':Nat}{cf kf:Nat->Int}{Pv:Nat->List L2.V->L2.Hp->Prop}{L:Nat->Nat->Int}{tn:Nat->PySem.Heap->Prop}{an od:Option PySem.Addr}{B:Prop}{C0 D T0 a c0 d f fI fa it l pl r:PySem.Addr}{A:PySem.Around}{env:PySem.Env}{e iter kx target tg value vx:PySem.Expr}{fd:PySem.FuncData}{base h h':PySem.Heap}{apos cpos p p2 pos':PySem.Pos}{P prog:PySem.Program}{R:PySem.Result->PySem.Shared->Prop}{scope:PySem.Scope}{s:PySem.Shared}{qual x:PySem.Str}{mg:PySem.Str->Option PySem.Value}{cdv ct doc oc pm:PySem.Value}{E Q:PySem.Value->PySem.Shared->Prop}{K K':PySem.W.Frag}{w:PySem.World}{YP:PySem.World->PySem.Heap->Prop}{T newId:String}{α β γ:Type}
namespace HT
open PySem PyProof.Rows
noncomputable def sIx(n d:Nat):Option Int->Nat
 |none=>d
 |some v=>if v < 0 then(v+(n:Int)).toNat else min v.toNat n
end HT
namespace L2
open PySem PySem.Spec PyProof.Rows
abbrev TO:=St->Hp->(Option Int->Hp->Prop)->Prop
def PO(X:Cx)(e:Option Expr)(t:TO):Prop:=
 ∀(pins:List (Addr×Obj)) (s:Shared) (σ:St) (H:Hp) (Q:Option Int->Hp->Prop),Inv X pins σ H s->t σ H Q->
  wpAny (model X.prog X.w) X.A (evalPart e X.env) (fun u s'=>∃o H',Inv X pins σ H' s'/\IsPart u o/\Q o H') X.xe s
def ud:TO:=fun _ H Q=>Q none H
def xU(t:TE):TO:=fun σ H Q=>t σ H fun x H1=>∃i,x= .int i/\Q (some i) H1
theorem me:∀ {us:List Value},Vals (ns.map V.int) us->IntsAre us ns:=by
 induction ns with
 |nil=>intro us r;rw[List.map_nil]at r;cases r;exact .nil
 |cons n ns a=>
  intro us r;rw[zh]at r
  cases r with
  |cons r1 r2=>
   obtain⟨t,e⟩:=r1;subst e;exact .cons n t (a r2)
theorem jq:PO X none ud:=by
 intro pins s σ H Q I h;rw[evalPart_none];exact wpAny_pure ⟨none,H,I, .none,h⟩
theorem jp(h:PE X e te):PO X (some e) (xU te):=by
 intro pins s σ H Q I hw;rw[evalPart_some];refine thn (h pins s σ H _ I hw) fun u s1 ⟨x,H1,b,r1,a⟩=>?_;obtain⟨i,rfl,q⟩:=a;obtain⟨t,rfl⟩:=r1;exact⟨some i,H1,b, .int i t,q⟩
def SlR(X:Cx)(r:V->Option Int->Option Int->Hp->VK->Prop):Prop:=
 ∀(pins:List (Addr×Obj)) (s:Shared) (σ:St) (H:Hp) (x:V) (v vl vu:Value) (lo hi:Option Int) (sl:Addr) (Q:VK),Inv X pins σ H s->RelV x v->s.heap.IsSliceOf sl vl vu .none->IsPart vl lo->IsPart vu hi->r x lo hi H Q->
  ∃T id,typeLookup (.type T) "__getitem__"=pure (some (.builtin id))/\s.TypeIs v T/\wpAny (model X.prog X.w) X.A (getItem v (.ref sl)) (EP X pins σ Q) X.xe s
def tSl(r:V->Option Int->Option Int->Hp->VK->Prop)(te:TE)(tl th:TO):TE:=fun σ H Q=>te σ H fun x H1=>tl σ H1 fun l H2=>th σ H2 fun u H3=>r x l u H3 Q
variable{i:Int}{to:TE}{x:V}{r:V->List V->Hp->VK->Prop}{its':List Value}{p:Addr}{a o:Expr}{name:Str}{id:String}
theorem gZ{lo hi:Option Expr}{tl th:TO}{pos:Pos}{r:V->Option Int->Option Int->Hp->VK->Prop}(hr:SlR X r)(he:PE X e te)(hl:PO X lo tl)(hu:PO X hi th):PE X (.Subscript e (.Slice lo hi none p2) pos) (tSl r te tl th):=by
 intro pins s σ H Q I h;refine Subscript_ (thn (he pins s σ H _ I h) fun v s1 ⟨x,H1,k,r1,g⟩=>?_);refine wpAny_Slice (thn (hl pins s1 σ H1 _ k g) fun vl m ⟨l,H2,d,pl,i⟩=>thn (hu pins m σ H2 _ d i) fun vu s3 ⟨u,H3,a,c,f⟩=>?_);rw[evalPart_none];refine wpAny_pure ?_;have j:Inv X pins σ H3 {s3 with heap:=s3.heap.push {cls:= .type "slice",data:= .fields #[vl,vu, .none]}}:=a.kept (t':=s3.toks) fun b ob q=>Heap.get?_push_of_some _ q;obtain⟨T,id,o,ht,n⟩:=hr pins {s3 with heap:=s3.heap.push {cls:= .type "slice",data:= .fields #[vl,vu, .none]}} σ H3 x v vl vu l u s3.heap.objs.size Q j r1 (Heap.IsSliceOf.new ..) pl c f;show wpAny (model X.prog X.w) X.A (subscriptTail e (.Slice lo hi none p2) v (.ref s3.heap.objs.size)) (EP X pins σ Q) X.xe {s3 with heap:=s3.heap.push {cls:= .type "slice",data:= .fields #[vl,vu, .none]}};exact tail_any (ops:= [.ref s3.heap.objs.size,v]) ht o n (by with_unfolding_all rfl)
noncomputable def cutV(xs:List V)(lo hi:Option Int):List V:=(xs.drop (HT.sIx xs.length 0 lo)).take (HT.sIx xs.length xs.length hi - HT.sIx xs.length 0 lo)
theorem kU(xs:List V)(lo hi:Option Int):(cutV xs lo hi).length<=xs.length:=by
 unfold cutV;rw[zv,List.length_drop];omega
noncomputable def ixN(n:Nat)(i:Int):Option Nat:=if 0<=i then(if i < n then some i.toNat else none)else if -(n:Int)<=i then some (i+n).toNat else none
noncomputable def atI(xs:List α)(i:Int):Option α:=(ixN xs.length i).bind fun j=>xs[j]?
theorem oe(h:ixN n i=some j):seqIndex? i n=some j/\j < n/\ -(n:Int)<=i/\i < n:=by
 unfold ixN at h;by_cases h0:0<=i
 . rw[if_pos h0]at h;by_cases h1:i < n
   . rw[if_pos h1]at h;have e:i.toNat=j:=z9 h;exact⟨by rw[seqIndex_of h0 h1,e],by omega,by omega,h1⟩
   . rw[if_neg h1]at h;cases h
 . rw[if_neg h0]at h;by_cases h1:-(n:Int)<=i
   . rw[if_pos h1]at h;have e:(i+n).toNat=j:=z9 h;exact⟨by rw[seqIndex_neg (by omega) h1,e],by omega,h1,by omega⟩
   . rw[if_neg h1]at h;cases h
theorem oz{xs:List α}{v:α}(h:atI xs i=some v):∃j,seqIndex? i xs.length=some j/\xs[j]?=some v/\j < xs.length/\ -(xs.length:Int)<=i/\i < xs.length:=by
 unfold atI at h
 cases e:ixN xs.length i with
 |none=>rw[e]at h;cases h
 |some j=>
  rw[e]at h;obtain⟨h1,h2,h3,a⟩:=oe e;exact⟨j,h1,h,h2,h3,a⟩
theorem ax{xs:List α}{v:α}(h:xs[j]?=some v):atI xs (j:Int)=some v:=by
 have a:j < xs.length:=(yZ.mp h).1
 have e:ixN xs.length (j:Int)=some j:=by
  unfold ixN;rw[if_pos (by omega),if_pos (by omega)];simp
 unfold atI;rw[e];exact h
def vh(b:Expr):Prop:=∀o i,subscripted b false o i=operate [o,i] (getItem o i)
def IxR(X:Cx)(r:R2):Prop:=
 ∀(value slice:Expr) (pins:List (Addr×Obj)) (s:Shared) (σ:St) (H:Hp) (x y:V) (v u:Value) (Q:VK),Inv X pins σ H s->RelV x v->RelV y u->r x y H Q->
  subscripted slice false v u=operate [v,u] (getItem v u)->wpAny (model X.prog X.w) X.A (subscriptTail value slice v u) (EP X pins σ Q) X.xe s
def MtR(X:Cx)(id:String)(r:V->List V->Hp->VK->Prop):Prop:=
 ∀(pins:List (Addr×Obj)) (s:Shared) (σ:St) (H:Hp) (x:V) (xs:List V) (v:Value) (us:List Value) (Q:VK),Inv X pins σ H s->RelV x v->Vals xs us->r x xs H Q->
  wpAny (model X.prog X.w) X.A (call (.builtin id) (v::us)) (EP X pins σ Q) X.xe s
theorem aq{b:Expr}{ta tb:TE}{pos:Pos}{r:R2}(hr:IxR X r)(ha:PE X a ta)(hb:PE X b tb)(hs:vh b):PE X (.Subscript a b pos) (tOp r ta tb):=by
 intro pins s σ H Q I h;exact Subscript_ (binT ha hb I h fun v u d x y H2 e f c q=>hr a b pins d σ H2 x y v u Q e f c q (hs _ _))
def rIxL(K:PySem.W.Frag):R2:=fun x y H Q=>∃p xs i v,x= .ref p/\y= .int i/\SqL K H p xs/\atI xs i=some v/\Q v H
def rIxT(K:PySem.W.Frag):R2:=fun x y H Q=>∃p xs i v,x= .ref p/\y= .int i/\SqT K H p xs/\atI xs i=some v/\Q v H
theorem am:IxR X (rIxL X.K):=by
 intro value slice pins s σ H x y v u Q I f e h hs;obtain⟨p,xs,i,z,rfl,rfl,hq,he,q⟩:=h;cases f;obtain⟨t,rfl⟩:=e;obtain⟨its,r,pl,hz⟩:=I.list hq;obtain⟨j,h1,h2,h3,g,d⟩:=oz he;obtain⟨w,c,b⟩:=r.get h2;have hl:=r.length;have hn:=fF;have fin:EP X pins σ Q w s:=Y5 z H I b q;by_cases h0:0<=i
 . have a:i.toNat=j:=by
    rw[seqIndex_of h0 d]at h1;exact z9 h1
   exact item_listR pl.isList h0 (by omega) (by rw[a];simpa using c) fin hs
 . have a:(i+(its.toArray.size:Int)).toNat=j:=by
    rw[seqIndex_neg (by omega) g]at h1
    rw[yX,<-hl];exact z9 h1
   exact subscriptTail_builtinR (x:=w) pl.isList.typeIs slot_list_getitem.lookup
    (wpAny_getItem_list_neg (Q:=fun r s'=>r=w/\EP X pins σ Q r s') pl.isList (by omega) (by rw[yX]<;>omega) (by omega) (by rw[a];simpa using c) ⟨rfl,fin⟩) hs
theorem aL:IxR X (rIxT X.K):=by
 intro value slice pins s σ H x y v u Q I d c h hs;obtain⟨p,xs,i,z,rfl,rfl,hq,he,q⟩:=h;cases d;obtain⟨t,rfl⟩:=c;obtain⟨its,r,pl,hz⟩:=I.tuple hq;obtain⟨j,h1,h2,h3,f,e⟩:=oz he;obtain⟨w,b,a⟩:=r.get h2;have hl:=r.length;have hn:=fF;have fin:EP X pins σ Q w s:=Y5 z H I a q
 exact subscriptTail_builtinR (x:=w) pl.typeIs slot_tuple_getitem.lookup
  (getItem_tuple (j:=j) (Q:=fun r s'=>r=w/\EP X pins σ Q r s') pl (by omega) (by omega) (by rw[yX,<-hl];exact h1) (by simpa using b) ⟨rfl,fin⟩) hs
theorem lW(its:List Value)(n j:Nat)(u:Value):Obj.mapSeq (·.setIfInBounds j u) {cls:= .type "list",data:= .seq its.toArray n} = {cls:= .type "list",data:= .seq (its.set j u).toArray n}:=by
 simp[Obj.mapSeq]
theorem Inv.lst(I:Inv X pins σ H s)(h:H p=some (.lst xs)):
 ∃(its:List Value) (n:Nat),Vals xs its/\s.heap.get? p=some {cls:= .type "list",data:= .seq its.toArray n}/\xs.length<=sizeLine:=by
 obtain⟨z,its,n,r,e⟩:=I.hok p _ h;exact⟨its,n,r,e,z⟩
theorem Inv.lstUpd{f:Obj->Obj}(I:Inv X pins σ H s)(h:H p=some (.lst xs))(ho:s.heap.get? p=some {cls:= .type "list",data:= .seq its.toArray n})(hf:f {cls:= .type "list",data:= .seq its.toArray n} = {cls:= .type "list",data:= .seq its'.toArray n'})(r:Vals ys its')(hz:ys.length<=sizeLine)(t:Nat):
 Inv X pins σ (upd H p (.lst ys)) {s with heap:=s.heap.update p f,toks:=t}:=by
 have e:(s.heap.update p f).get? p=some {cls:= .type "list",data:= .seq its'.toArray n'}:=by
  rw[Heap.get?_update_self f ho (by rw[hf]<;>rfl),hf]
 refine I.write (x:=p) (e:=p) (by rw[h];trivial) (.inl rfl) (fun b u hb q=>(Heap.get?_update_other _ _ (Ne.symm hb)).trans q) ⟨_,e⟩ ?_
 exact⟨hz,its',n',r,e⟩
def yq:V->V->V->Hp->(Hp->Prop)->Prop:=fun o i v H Q=>∃p xs k j,o= .ref p/\i= .int k/\H p=some (.lst xs)/\ixN xs.length k=some j/\Q (upd H p (.lst (xs.set j v)))
theorem dq:PSet X yq:=by
 intro pins s σ H o i v ov iv u Q I ro c rv h;obtain⟨p,xs,k,j,rfl,rfl,hp,d,q⟩:=h;cases ro;obtain⟨t,rfl⟩:=c;obtain⟨its,n,r,ho,hz⟩:=I.lst hp;obtain⟨h1,h2,h3,a⟩:=oe d;have hl:=r.length;have hn:=fF
 have b:Inv X pins σ (upd H p (.lst (xs.set j v))) {s with heap:=s.heap.update p (Obj.mapSeq (·.setIfInBounds j u))}:=
  I.lstUpd hp ho (lW its n j u) (r.set rv j) (by rw[List.length_set];exact hz) s.toks
 by_cases h0:0<=k
 . have hk:k.toNat=j:=by
    rw[seqIndex_of h0 a]at h1;exact z9 h1
   exact PySem.W.ki_setAt ho h0 (by omega) (by rw[yX,<-hl];exact a) (by rw[hk];exact Y3 _ b q)
 . have hk:(k+(its.toArray.size:Int)).toNat=j:=by
    rw[seqIndex_neg (by omega) h3]at h1
    rw[yX,<-hl];exact z9 h1
   exact PySem.W.ki_setBack ho (by omega) (by rw[yX,<-hl];exact h3) (by omega) (by rw[hk];exact Y3 _ b q)
theorem jf(lo hi:Option Int)(n:Nat):(sliceBounds lo hi none n).1=((HT.sIx n 0 lo:Nat):Int)/\(sliceBounds lo hi none n).2.1=((HT.sIx n n hi:Nat):Int)/\(sliceBounds lo hi none n).2.2=1:=by
 refine⟨?_,?_,rfl⟩
 . cases lo with
   |none=>simp[sliceBounds,HT.sIx]
   |some i=>
    simp only[sliceBounds,HT.sIx,Option.getD_none,show(1:Int) > 0 by decide,if_true]
    by_cases h:i < 0
    . simp only[h,if_true]<;>omega
    . simp only[h,if_false]<;>omega
 . cases hi with
   |none=>simp[sliceBounds,HT.sIx]
   |some i=>
    simp only[sliceBounds,HT.sIx,Option.getD_none,show(1:Int) > 0 by decide,if_true]
    by_cases h:i < 0
    . simp only[h,if_true]<;>omega
    . simp only[h,if_false]<;>omega
theorem iA(its:List Value)(lo hi:Option Int):slicePick its.toArray lo hi none=((its.drop (HT.sIx its.length 0 lo)).take (HT.sIx its.length its.length hi - HT.sIx its.length 0 lo)).toArray:=by
 obtain⟨h1,h2,h3⟩:=jf lo hi its.toArray.size;unfold slicePick;rw[h1,h2,h3];simp only[sliceRange_one,pick_run,yX]<;>rfl
def rSlL(K:PySem.W.Frag):V->Option Int->Option Int->Hp->VK->Prop:=fun x lo hi H Q=>∃a xs,x= .ref a/\SqL K H a xs/\∀p,H p=none->Q (.ref p) (upd H p (.lst (cutV xs lo hi)))
theorem jg:SlR X (rSlL X.K):=by
 intro pins s σ H x v vl vu lo hi sl Q I e hs pl d h;obtain⟨a,xs,rfl,hx,q⟩:=h;cases e;obtain⟨its,r,ht,hz⟩:=I.list hx;have c:=r.length;refine Y5 ("list") _ slot_list_getitem.lookup ht.isList.typeIs ?_;refine wpAny_getItem_list_slice ht.isList hs pl d .none (by simp) ?_ (by rw[yX]<;>omega)
 rw[iA,<-c];refine Y5 (.ref s.heap.objs.size) _ (I.laid (t':=s.toks) (o:= .lst (cutV xs lo hi)) (fun b ob q=>Heap.get?_push_of_some _ q) (yV _) ?_) rfl (q _ (I.hok.fresh (yV _)));exact⟨z7 (kU xs lo hi) hz,U3 _ 0 ((r.drop (HT.sIx xs.length 0 lo)).take (HT.sIx xs.length xs.length hi - HT.sIx xs.length 0 lo)) (Heap.get?_push_size _ rfl)⟩
theorem ar:cj X (.builtin "len") (fun xs H Q=>∃p ys,xs= [.ref p]/\(SqL X.K H p ys\/SqT X.K H p ys)/\Q (.int ys.length) H):=by
 intro pins s σ H xs us Q I r h;obtain⟨p,ys,rfl,hq,q⟩:=h;obtain⟨u,rfl,b⟩:=dh r;cases b;have hn:=fF;rcases hq with hq|hq
 . obtain⟨its,r',pl,hz⟩:=I.list hq;have a:=r'.length;exact Calls.call_len_list pl.isList (by simp only[yX]<;>omega) (Y5 (.int ys.length) H (I.tok _) ⟨s.toks+1,by rw[yX,a]⟩ q)
 . obtain⟨its,r',pl,hz⟩:=I.tuple hq;have a:=r'.length;exact len_tuple pl (by simp only[yX]<;>omega) (Y5 (.int ys.length) H (I.tok _) ⟨s.toks+1,by rw[yX,a]⟩ q)
theorem dg:cj X (.type "list") (fun xs H Q=>∃p ys,xs= [.ref p]/\(SqL X.K H p ys\/SqT X.K H p ys)/\∀l,H l=none->Q (.ref l) (upd H l (.lst ys))):=by
 intro pins s σ H xs us Q I r h;obtain⟨p,ys,rfl,hq,q⟩:=h;obtain⟨u,rfl,c⟩:=dh r;cases c
 have fin:∀(its:List Value),Vals ys its->ys.length<=sizeLine->∀(h':Heap) (c':Nat),(∀b o',s.heap.get? b=some o'->h'.get? b=some o')->
  h'.get? s.heap.objs.size=some {cls:= .type "list",dict:=none,data:= .seq its.toArray c',slots:= #[]}->EP X pins σ Q (.ref s.heap.objs.size) {s with heap:=h'}:=fun its r' hz h' c' kp e=>
  (Y5 (.ref s.heap.objs.size) _ (I.laid (t':=s.toks) kp (yV _) (show ObjOk X.prog X.w _ h' _ (.lst ys)from⟨hz,U3 its c' r' e⟩)) rfl (q _ (I.hok.fresh (yV _))))
 rcases hq with hq|hq
 . obtain⟨its,r',pl,hz⟩:=I.list hq;have a:=r'.length;obtain⟨o,ho,hc,n,hd⟩:=pl.isList;exact call_list_seq p (.inl rfl) ho hc hd (fun h' c' kp e=>fin its r' hz h' c' kp e) (by simp only[yX]<;>omega)
 . obtain⟨its,r',pl,hz⟩:=I.tuple hq;have a:=r'.length;obtain⟨o,ho,hc,n,hd⟩:=pl;exact call_list_seq p (.inr rfl) ho hc hd (fun h' c' kp e=>fin its r' hz h' c' kp e) (by simp only[yX]<;>omega)
theorem dU:cj X (.type "tuple") (fun xs H Q=>∃p ys,xs= [.ref p]/\((SqL X.K H p ys/\∀l,H l=none->Q (.ref l) (upd H l (.tup ys)))\/(SqT X.K H p ys/\Q (.ref p) H))):=by
 intro pins s σ H xs us Q I r h;obtain⟨p,ys,rfl,h⟩:=h;obtain⟨u,rfl,f⟩:=dh r;cases f;rcases h with⟨hq,q⟩|⟨hq,q⟩
 . obtain⟨its,r',pl,hz⟩:=I.list hq;have a:=r'.length;refine call_tuple_list pl.isList (fun h' kp=>?_) (by simp only[yX]<;>omega)
   have c:Inv X pins σ H {s with heap:=h'}:=I.kept (t':=s.toks) kp
   have d:Inv X pins σ (upd H h'.objs.size (.tup ys)) {s with heap:=h'.push {cls:= .type "tuple",data:= .seq its.toArray}}:=
    c.laid (t':=s.toks) (fun b o e=>Heap.get?_push_of_some _ e) (yV _) (show ObjOk X.prog X.w _ _ _ (.tup ys)from⟨hz,Y3 its r' (IsTup.new _ _)⟩)
   exact Y5 (.ref h'.objs.size) _ d rfl (q _ (c.hok.fresh (yV _)))
 . obtain⟨its,r',pl,hz⟩:=I.tuple hq;exact call_tuple_same pl (Y5 (.ref p) H I rfl q)
def tyV(K:PySem.W.Frag)(T:String)(x:V)(H:Hp):Prop:=match x with
 | .str _=>T= "str"
 | .int _=>T= "int"
 | .ref p=>(T= "list"/\∃xs,SqL K H p xs)\/(T= "tuple"/\∃o,K.lookup p=some o/\o.cls= .type "tuple"/\o.dict=none)\/
  (T= "dict"/\((∃kvs,H p=some (.dK kvs))\/∃kvs,H p=some (.dT kvs)))\/(T= "set"/\∃S n,H p=some (.set S n))
 |_=>False
theorem pP{v:Value}(I:Inv X pins σ H s)(r:RelV x v)(ty:tyV X.K T x H):
 s.TypeIs v T/\∀a,v= .ref a->∃ob,s.heap.get? a=some ob/\ob.dict=none:=by
 cases x with
 |str z=>
  obtain⟨t,rfl⟩:=r;cases (show T= "str" from ty);exact⟨typeIs_str s z t,fun _ e=>nomatch e⟩
 |int i=>
  obtain⟨t,rfl⟩:=r;cases (show T= "int" from ty);exact⟨typeIs_int s i t,fun _ e=>nomatch e⟩
 |ref p=>
  cases r;rcases ty with⟨rfl,xs,hq⟩|⟨rfl,o,hk,hc,hd⟩|⟨rfl,hk⟩|⟨rfl,S,n,hk⟩
  . obtain⟨its,_,pl,_⟩:=I.list hq;refine⟨pl.isList.typeIs,fun a e=>?_⟩;cases e;obtain⟨o,n,e,c,hd,_⟩:=pl;exact Y3 o e hd
  . refine⟨(Y3 o (I.kIn p o hk) hc),fun a e=>?_⟩;cases e;exact Y3 o (I.kIn _ o hk) hd
  . have z:∃o,s.heap.get? p=some o/\o.ExactDict:=by
     rcases hk with⟨kvs,hk⟩|⟨kvs,hk⟩
     . obtain⟨_,_,_,_,o,_,_,e,ex,_⟩:=I.hok p _ hk;exact Y3 o e ex
     . obtain⟨_,_,_,_,o,_,_,e,ex,_⟩:=I.hok p _ hk;exact Y3 o e ex
    obtain⟨o,e,ex⟩:=z;refine⟨(Y3 o e ex.1),fun a b=>?_⟩;cases b;exact Y3 o e ex.2.1
  . obtain⟨o,_,_,_,e,ex,_⟩:=I.hok p _ hk;refine⟨(Y3 o e ex.1),fun a b=>?_⟩;cases b;exact Y3 o e ex.2.1
 |_=>exact False.elim ty
def tBM0(K:PySem.W.Frag)(T:String)(r:V->List V->Hp->VK->Prop)(to:TE):TE:=fun σ H Q=>to σ H fun x H1=>tyV K T x H1/\r x [] H1 Q
def tBM(K:PySem.W.Frag)(T:String)(r:V->List V->Hp->VK->Prop)(to:TE)(t:TA):TE:=fun σ H Q=>to σ H fun x H1=>tyV K T x H1/\t σ H1 fun xs H2=>r x xs H2 Q
theorem wa(pa:PlainAttrs T)(slot:Slot T name id)(hty:typeOf (.builtin id)=pure (.type "method_descriptor"))(hm:MtR X id r)(ho:PE X o to)(hbase:attributeBase o name X.env (eval o X.env)=eval o X.env:=by rfl)(hline:(apos.endLine==cpos.line)=true:=by rfl):PE X (.Call (.Attribute o name apos) [] [] cpos) (tBM0 X.K T r to):=by
 intro pins s σ H Q I h;refine wpAny_Call_method0_late hbase hline (thn (ho pins s σ H _ I h) fun v s1 ⟨x,H1,a,r1,ty,b⟩=>?_);obtain⟨h1,h2⟩:=pP a r1 ty;exact Y4 T id ⟨pa,slot,hty,h1,h2,Calls.callWith_builtin rfl (PySem.evalArgs_none (hm pins s1 σ H1 x [] v [] Q a r1 .nil b))⟩
theorem cU{t:TA}(pa:PlainAttrs T)(slot:Slot T name id)(hty:typeOf (.builtin id)=pure (.type "method_descriptor"))(hm:MtR X id r)(ho:PE X o to)(ha:PA X (e::es) t)(hbase:attributeBase o name X.env (eval o X.env)=eval o X.env:=by rfl)(hfew:((backTo cpos (starEach (e::es) X.env)).all (fun x=> !x.1)&& (backToKw cpos (keywordEach [] X.env)).all (fun x=>x.1.isSome)
  &&decide ((e::es).length+([]:List Keyword).length+(if ([]:List Keyword).isEmpty then 0 else 1) < 30))=true:=by rfl)(hline:(apos.endLine==cpos.line)=true:=by rfl)(hs:starEach (e::es) X.env=(false,eval e X.env)::starEach es X.env:=by rfl)(hplain:(backTo cpos (starEach es X.env)).any (·.1)=false:=by rfl):
 PE X (.Call (.Attribute o name apos) (e::es) [] cpos) (tBM X.K T r to t):=by
 intro pins s σ H Q I h;refine wpAny_Call_method_late hbase hfew hline rfl (thn (ho pins s σ H _ I h) fun v s1 ⟨x,H1,b,r1,ty,d⟩=>?_);obtain⟨h1,h2⟩:=pP b r1 ty;refine Y4 T id ⟨pa,slot,hty,h1,h2,?_⟩;have a:=ha cpos pins s1 σ H1 _ b d;rw[hs]at a ⊢;refine Calls.callWith_builtin (by show(false ||(backTo cpos (starEach es X.env)).any (·.1))=false;rw[hplain]<;>rfl) (Calls.evalArgs_plain ?_)
 exact thn a fun us g ⟨vs,H2,c,r2,f⟩=>hm pins g σ H2 x vs v us Q c r1 r2 f
def MtM(X:Cx)(id:String)(r:V->List V->Hp->VK->Prop):Prop:=
 ∀(pins:List (Addr×Obj)) (s:Shared) (σ:St) (H:Hp) (x:V) (xs:List V) (v:Value) (us:List Value) (Q:VK),Inv X pins σ H s->RelV x v->Vals xs us->r x xs H Q->
  wpAny (model X.prog X.w) X.A (call (.builtin id) (v::us)) (EP X pins σ Q) X.xe s
theorem Vals.one:∀ {x:V} {us:List Value},Vals [x] us->∃u,us= [u]/\RelV x u
 |_,_, .cons r .nil=>Y3 _ rfl r
theorem Vals.two{y:V}{us:List Value}(h:Vals [x,y] us):∃u v,us= [u,v]/\RelV x u/\RelV y v:=by
 cases h with
 |cons r t=>cases t with
  |cons q t'=>cases t';exact⟨_,_,rfl,r,q⟩
theorem Vals.zero:∀ {us:List Value},Vals [] us->us= []
 |_, .nil=>rfl
theorem Vals.eraseIdx:∀ {xs:List V} {us:List Value} (i:Nat),Vals xs us->Vals (xs.eraseIdx i) (us.eraseIdx i)
 |_,_,_, .nil=> .nil
 |_,_,0, .cons _ t=>t
 |_,_,i+1, .cons r t=> .cons r (Vals.eraseIdx i t)
theorem Vals.rep{xs:List V}{us:List Value}(h:Vals xs us):∀k:Nat,Vals (List.replicate k xs).flatten (List.replicate k us).flatten
 |0=> .nil
 |k+1=>by
  rw[List.replicate_succ,List.replicate_succ,List.flatten_cons,List.flatten_cons];exact Vals.append h (Vals.rep h k)
theorem iO{α:Type}:∀(l:List α) (i:Nat),(l.eraseIdx i).length<=l.length
 | [],_=>yV _
 |_::_,0=>Nat.le_succ _
 |_::r,i+1=>Nat.succ_le_succ (iO r i)
theorem iT(its:List Value):∀(k:Nat) (acc:List Value),
 List.foldl (fun x1 x2=>x1++x2) acc.toArray (List.replicate k its.toArray)=(acc++(List.replicate k its).flatten).toArray
 |0,acc=>by simp
 |k+1,acc=>by
  have e:acc.toArray++its.toArray=(acc++its).toArray:=by simp
  have a:(acc++its)++(List.replicate k its).flatten=acc++(List.replicate (k+1) its).flatten:=by
   rw[List.replicate_succ,List.flatten_cons,AL]
  rw[<-a,<-iT its k (acc++its),<-e,List.replicate_succ,List.foldl_cons]
theorem Inv.lset{f:Array Value->Array Value}(I:Inv X pins σ H s)(hH:H l=some (.lst xs))(e:s.heap.get? l=some {cls:= .type "list",data:= .seq its.toArray n})(hf:f its.toArray=its'.toArray)(hv:Vals ys its')(hz:ys.length<=sizeLine):
 Inv X pins σ (upd H l (.lst ys)) {s with heap:=s.heap.update l (Obj.mapSeq f),toks:=t'}:=by
 have q:=PySem.IsL.update e f;rw[hf]at q;refine I.write (x:=l) (e:=l) (by rw[hH];exact trivial) (.inl rfl) (fun b' u hb hu=>(Heap.get?_update_other s.heap (Obj.mapSeq f) (Ne.symm hb)).trans hu) ⟨_,q⟩ ?_
 exact⟨hz,its',_,hv,q⟩
theorem Inv.lnew(I:Inv X pins σ H s)(hv:Vals ys its)(hz:ys.length<=sizeLine):
 Inv X pins σ (upd H s.heap.objs.size (.lst ys)) {s with heap:=s.heap.push {cls:= .type "list",data:= .seq its.toArray},toks:=t'}:=
 I.laid (fun _ _ q=>Heap.get?_push_of_some _ q) (yV _) ⟨hz,its,0,hv,Heap.get?_push_size _ rfl⟩
theorem Inv.fresh(I:Inv X pins σ H s):H s.heap.objs.size=none:=I.hok.fresh (yV _)
theorem Inv.lstM(I:Inv X pins σ H s)(hH:H l=some (.lst xs)):xs.length<=sizeLine/\∃(its:List Value) (n:Nat),Vals xs its/\xs.length=its.length/\s.heap.get? l=some {cls:= .type "list",data:= .seq its.toArray n}:=by
 obtain⟨z,its,n,r,e⟩:=I.hok l _ hH;exact⟨z,its,n,r,r.length,e⟩
theorem sk(h:n<=sizeLine):Builtin.List.listTooLong n=false:=by
 unfold Builtin.List.listTooLong;exact decide_eq_false (by omega)
def nJ:V->List V->Hp->VK->Prop:=fun x vs H Q=>∃l xs y,x= .ref l/\vs= [y]/\H l=some (.lst xs)/\xs.length < sizeLine/\Q .non (upd H l (.lst (xs++ [y])))
theorem bu:MtM X "list.append" nJ:=by
 intro pins s σ H x vs v us Q I c rv h;obtain⟨l,xs,y,rfl,rfl,a,hz,q⟩:=h;cases c;obtain⟨u,rfl,b⟩:=rv.one;obtain⟨z,its,n,r,hl,e⟩:=I.lstM a;refine call_meets F.slot_list_append (Y3 _ e rfl) F.entry_list_append (F.args_list_append_2 _ _) (PySem.list_append l its.toArray n u (by rw[yX];omega)) ⟨e,?_⟩
 refine Y5 (.non) _ (I.lset (its':=its++ [u]) a e (by simp) (r.append (.cons b .nil)) ?_) rfl q
 rw[zj,List.length_singleton];omega
def vZ:V->List V->Hp->VK->Prop:=fun x vs H Q=>∃l xs i k y,x= .ref l/\vs= [.int i]/\H l=some (.lst xs)/\ -(2^63)<=i/\i < 2^63/\seqIndex? i xs.length=some k/\xs[k]?=some y/\Q y (upd H l (.lst (xs.eraseIdx k)))
theorem sw:MtM X "list.pop" vZ:=by
 intro pins s σ H x vs v us Q I d rv h;obtain⟨l,xs,i,k,y,rfl,rfl,b,h1,h2,hk,hy,q⟩:=h;cases d;obtain⟨u,rfl,c⟩:=rv.one;obtain⟨t,rfl⟩:=c;obtain⟨z,its,n,r,hl,e⟩:=I.lstM b;obtain⟨w,hw,a⟩:=r.get hy
 refine call_meets F.slot_list_pop (Y3 _ e rfl) F.entry_list_pop (F.args_list_pop_2 _ _)
  (MeetsSeq.list_pop_at l its.toArray n i t k w (fitsIndex_both h1 h2) (by rw[yX,<-hl];exact hk) (by rw[<-A5];exact hw) (by rw[yX];omega)) ⟨e,?_⟩
 refine Y5 y _ (I.lset (its':=its.eraseIdx k) b e ?_ (r.eraseIdx k) ?_) a q
 . show its.toArray.eraseIdxIfInBounds k=(its.eraseIdx k).toArray;rw[List.eraseIdxIfInBounds_toArray]
 . have:=iO xs k;omega
def rCat:R2:=fun x y H Q=>∃l b xs zs,x= .ref l/\y= .ref b/\H l=some (.lst xs)/\H b=some (.lst zs)/\xs.length+zs.length<=sizeLine/\∀p,H p=none->Q (.ref p) (upd H p (.lst (xs++zs)))
theorem fD:OpR X (binaryOp .Add) rCat:=by
 intro pins s σ H x y v u Q I k j h;obtain⟨l,b,xs,zs,rfl,rfl,c,i,hz,q⟩:=h;cases k;cases j;obtain⟨z,its,n,r,hl,e⟩:=I.lstM c;obtain⟨m,a,n2,r2,d,g⟩:=I.lstM i;refine PySem.P.add_list e g ?_ (by rw[yX,yX];omega)
 have f:its.toArray++a.toArray=(its++a).toArray:=by simp
 rw[f];exact Y5 (.ref _) _ (I.lnew (t':=s.toks) (r.append r2) (by rw[zj];omega)) rfl (q _ I.fresh)
def rRep:R2:=fun x y H Q=>∃l k xs,x= .ref l/\y= .int k/\H l=some (.lst xs)/\ -(2^63)<=k/\k < 2^63/\xs.length*k.toNat<=sizeLine/\
 ∀p,H p=none->Q (.ref p) (upd H p (.lst (List.replicate k.toNat xs).flatten))
theorem uK(xs:List α)(k:Nat):(List.replicate k xs).flatten.length=k*xs.length:=by
 induction k with
 |zero=>simp
 |succ k a=>rw[List.replicate_succ,List.flatten_cons,zj,a,Nat.succ_mul,Nat.add_comm]
theorem we:OpR X (binaryOp .Mult) rRep:=by
 intro pins s σ H x y v u Q I p o h;obtain⟨l,k,xs,rfl,rfl,j,h1,h2,hz,q⟩:=h;cases p;obtain⟨t,rfl⟩:=o;obtain⟨z,its,n,r,hl,e⟩:=I.lstM j;have d:its.toArray.size*k.toNat<=sizeLine:=by rw[yX,<-hl];exact hz
 have f:¬its.toArray.size*k.toNat >(2^63 - 1) / 8:=by
  have:(sizeLine:Nat)<=(2^63 - 1) / 8:=by decide
  omega
 have g:¬(!Builtin.List.listFitsIndex k)=true:=by
  rw[fitsIndex_both h1 h2];exact zt
 have b:¬Builtin.List.listTooLong (its.toArray.size*k.toNat)=true:=by
  rw[sk d];exact zt
 have c:List.foldl (fun x1 i=>x1++i) #[] (List.replicate (if its.toArray.isEmpty=true then 0 else k.toNat) its.toArray)=(List.replicate k.toNat its).flatten.toArray:=by
  have f0:∀m:Nat,List.foldl (fun x1 i=>x1++i) #[] (List.replicate m its.toArray)=(List.replicate m its).flatten.toArray:=fun m=>by
   have:=iT its m [];rw[List.nil_append]at this;exact this
  rw[f0]
  cases its with
  |nil=>simp
  |cons a r'=>rw[if_neg (by simp)]
 refine wpAny_binaryOp_repeat_ref (T:="list") (U:="int") (by decide) (Y3 _ e rfl) (fun s'=>typeIs_int s' k t) noFill_list_mul F.fills_int_mul F.slot_int_rmul repeat_list F.slot_int_index.lookup
  (call_meets F.slot_int_rmul (typeIs_int s k t) F.entry_int_rmul (F.args_int_rmul_2 _ _) (int___rmul___int_list k t l its.toArray n)
   ⟨e,rfl,(Y3 _ e rfl),call_meets F.slot_list_mul (Y3 _ e rfl) F.entry_list_mul (F.args_list_mul_2 _ _) (AutoListH.list___mul___list_int_3 l its.toArray n k t g f b) ⟨e,?_⟩⟩)
 rw[c];exact Y5 (.ref _) _ (I.lnew (t':=s.toks) (r.rep k.toNat) (by rw[uK,Nat.mul_comm];exact hz)) rfl (q _ I.fresh)
end L2
namespace Att
open PySem PySem.W PySem.Calls PyProof.Rows
variable{l:OpenLaw}{P:Params}
theorem fZ:∀(ns:List Int) (vs:List Value),WellAll P h vs (ns.map WData.int)->IntsAre vs ns:=by
 intro ns
 induction ns with
 |nil=>
  intro vs w;rw[List.map_nil]at w;cases w;exact .nil
 |cons n ns c=>
  intro vs w;rw[zh]at w
  cases w with
  |cons a b=>
   cases a;exact .cons _ _ (c _ b)
theorem oO(hn:l.most=some n){args:List WData}{vals:List Value}(hpre:l.row.toRowW.claim.pre args=true)(hwl:WellAll P h vals args):
 ∃a vs ns,vals= [Value.ref a]/\args= [WData.list (ns.map WData.int)]/\h.get? a=some {cls:= .type "list",data:= .seq vs.toArray}/\IntsAre vs ns/\ns.length<=n:=by
 have g:WShape.hasAll [] args [.list .int]=true:=(pre_splitW hpre).1;have hc:l.pre.holds [] {args:=args} =true:=(pre_splitW hpre).2;obtain⟨d,r,rfl,h1,h2⟩:=hasAllW_cons g;obtain rfl:=hasAllW_nil h2;obtain⟨xs,rfl,h3⟩:=hasW_list h1;obtain⟨ns,rfl⟩:=items_int h3
 have b:ns.length<=n:=by
  unfold OpenLaw.pre at hc
  have f:(WTm.not (.lt (.lit (.int (n:Int))) (.len (.arg 0)))).holds [] {args:= [.list (ns.map .int)]} =true:=by
   have f:=(holds_andW hc).1;rw[hn]at f;exact f
  have e:=condW_of f (w_not (w_lt w_lit (w_len_list (w_arg rfl))));rw[yR]at e;refine Nat.le_of_not_lt fun q=>?_;have i:(n:Int) < ((ns.length:Nat):Int):=by omega
  first
   |(rw[decide_eq_true i]at e;exact absurd e (by decide))
   |(simp at e;omega)
 cases hwl with
 |cons k j=>
  cases j
  cases k with
  |list ho c=>exact(U4 _ _ ns rfl rfl ho (fZ ns _ c) b)
theorem oR(l:OpenLaw)(args:List WData):l.row.toRowW.claim.post args (.bool true) args=true:=
 postW_of (r:=l.row.toRowW) (X:=(true==true))
  (show WShape.has [] (.bool true) .bool=true by first|rfl|decide|simp[WShape.has,WShape.arms,WShape.armsAll])
  (show(WTm.eq .res (.lit (.bool true))).value [] {args:=args,res:=some (.bool true),after:=args} =some (.bool (true==true))from w_eq_bool (w_res rfl) w_lit) rfl
theorem attach_call{q:Program}{loose:List Str}{d:DefRec}(hn:l.most=some n)(hdf:d.params.defaults= [])(call:∀(w:World) (s₀ s₁:Shared) (mg mb:Str->Option Value) (fa:Addr) (o:Obj) (pm cd doc:Value) (a:Addr) (vs:List Value) (ns:List Int),
  Ground q loose [] XP w s₀ mg mb s₁.heap->YP w s₁.heap->
  s₁.heap.get? fa=some o->o.data= .func (docDef d.name d.params d.body d.scope pm cd doc)->s₁.heap.CodeRec cd d.name->mg d.name=some (.ref fa)->
  s₁.heap.get? a=some {cls:= .type "list",data:= .seq vs.toArray}->IntsAre vs ns->ns.length<=n->s₁.gens= #[]->
  codeAny (model l.prog w) callerA (.call (.ref fa) ⟨[.ref a],[]⟩) (fun r s'=>r= .ok (.ret (.bool true))/\OldK s₁.heap s'.heap/\s'.os=s₁.os/\AllBare s'.gens) s₁):
 WalkO q loose XP YP l.row.toRowW d [] (fun f vs=>PySem.call f vs):=by
 intro w s₀ s₁ mg mb G Y fa o pm cd doc s kV ho hd j m h p args vals as c k t i u;obtain rfl:s= .none:=Dflts.none m hdf;obtain rfl:kV= .none:=Dflts.noKw m;obtain⟨a,vs,ns,rfl,rfl,e,b,g⟩:=oO hn c i;refine enter_call (codeAny_mono (call w s₀ s₁ mg mb fa o pm cd doc a vs ns G Y ho (fd_plain hd) j h e b g p) fun r s' hq=>?_);obtain⟨rfl,h2,h3,v⟩:=hq;exact⟨.inl (U4 (.bool true) (.bool true) ([]) rfl (fun _=>rfl) (.bool true) (oR l _) (fun _=>⟨List.Pairwise.nil,fun _ hm=>(nomatch hm)⟩)),h2,h3,v⟩
end Att
namespace L2
open PySem PySem.Spec PyProof.Rows
theorem iE:∀ {vs:List Value} {ns:List Int},IntsAre vs ns->Vals (ns.map V.int) vs
 |_,_, .nil=> .nil
 |_,_, .cons n t h=> .cons ⟨t,rfl⟩ (iE h)
def Only(H:Hp):Prop:=∀b,H b=none\/∃o xs,H b=some (.frz o (.lst xs))
noncomputable def uQ(s:Stmt)(j:Nat):Stmt:=match s with
 | .ClassDef _ _ _ body _ _ _ _ _ _ _=>body.getD j (.Pass ⟨0,0,0,0⟩)
 |_=> .Pass ⟨0,0,0,0⟩
noncomputable def bc(s:Stmt):Arguments:=match s with
 | .FunctionDef _ a _ _ _ _ _ _ _ _=>a
 |_=> {posonlyargs:= [],args:= [],vararg:=none,kwonlyargs:= [],kw_defaults:= [],kwarg:=none,defaults:= []}
noncomputable def aP(s:Stmt):List Stmt:=match s with
 | .FunctionDef _ _ b _ _ _ _ _ _ _=>b
 |_=> []
noncomputable def af(s:Stmt):Scope:=match s with
 | .FunctionDef _ _ _ _ _ _ sc _ _ _=>sc
 |_=> {kind:= .function,names:= [],isGenerator:=false,isCoroutine:=false}
abbrev CX0:CXT:=fun _ _ _ _ _ _=>False
abbrev E0:XK:=fun _ _ _=>False
theorem iL:iw CX0 X E0:=fun _ _ _ _ _ _ _ h=>h.elim
structure Fun (K:PySem.W.Frag) (x qual:Str) (st:Stmt) (f:Addr) (fd:FuncData):Prop where
 ex:∃(oc:Value) (od:Option Addr) (kV doc pm:Value) (an:Option Addr) (cdv ct:Value) (osl:Array (Option Value)),
  fd=PySem.W.fnOf x qual (bc st) (aP st) (af st) .none kV doc pm an cdv ct/\K.lookup f=some ⟨oc,od, .func fd,osl⟩/\PySem.W.codeIn K cdv qual=true
 kp:PySem.W.keepIn K (.ref f)=true
variable{ps:List Str}
theorem Fun.ok{st:Stmt}{k:Nat}(F:Fun K x qual st f fd)(S:FnScope N ps (af st))(len:∀vs H Q E,sp vs H Q E->vs.length=ps.length)(hbody:∀(cdv:Value) (A:Around) (outer:List Env) (s:Shared) (H:Hp) (vs:List V) (Q:VK) (E:XK),Room k (A.deeper (envOfC qual (af st) s.heap.objs.size f cdv))->sp vs H Q E->
  ∃t,PSs (cxOf CX0 P w K mg base N qual (af st) f cdv A outer s H E).nox (aP st) t/\t {nx:=fun _ H'=>Q .non H',rt:=Q} (start N vs) H):FnOk P w K mg base CX0 (k+1) f fd ps sp:=by
 obtain⟨i,g,kV,e,pm,an,cdv,ct,d,rfl,c,b⟩:=F.ex;refine vJ c b S len fun A outer s H vs Q E hr a=>?_;obtain⟨t,h,q⟩:=hbody cdv A outer s H vs Q E hr a;exact Y3 t h.nox q
theorem Fun.binds{st:Stmt}(F:Fun K x qual st f fd)(h:∀(kV doc pm:Value) (an:Option Addr) (cdv ct:Value) (us:List Value),us.length=ps.length->bindArgs (PySem.W.fnOf x qual (bc st) (aP st) (af st) .none kV doc pm an cdv ct) ⟨us,[]⟩=pure (ps.zip us)):Binds K fd ps []:=by
 obtain⟨d,e,kV,doc,pm,an,cdv,ct,a,rfl,c,b⟩:=F.ex;exact .all (h kV doc pm an cdv ct)
theorem xD{st:Stmt}{kV:Value}(l:K.lookup f=some ⟨oc,od, .func (PySem.W.fnOf x qual (bc st) (aP st) (af st) .none kV doc pm an cdv ct),osl⟩)(c:PySem.W.codeIn K cdv qual=true)(k:PySem.W.keepIn K (.ref f)=true):Fun K x qual st f (PySem.W.fnOf x qual (bc st) (aP st) (af st) .none kV doc pm an cdv ct):=⟨⟨oc,od,kV,doc,pm,an,cdv,ct,osl,rfl,l,c⟩,k⟩
theorem yI{k:Nat}(hr:Room k A):A.units+1 < cLine:=zk (Ah (by decide:1<=64) _) hr.units
theorem pv(i:Nat){pos:Pos}(hN:X.N[i]?=some x:=by rfl)(hv:Vis X.env.scope x:=by first|exact Or.inl rfl|exact Or.inr (Or.inl rfl)|exact Or.inr (Or.inr rfl))(hd:(x==("__debug__":Str))=false:=by decide)(hcd:(x==("__classdict__":Str))=false:=by decide):PE X (.Name x pos) (tVar i):=rS hN hv hd hcd
variable{A:Prop}
theorem iteF(h:B):if false=true then A else B:=by
 rw[if_neg zt];exact h
theorem iteT(h:A):if true=true then A else B:=by
 rw[if_pos rfl];exact h
theorem ite2{c:Prop}[Decidable c](h1:c->A)(h2:¬c->B):if c then A else B:=by
 by_cases h:c
 . rw[if_pos h];exact h1 h
 . rw[if_neg h];exact h2 h
def Same(H H':Hp):Prop:=∀b o,H b=some o->H' b=some o
theorem Same.refl(H:Hp):Same H H:=fun _ _ h=>h
theorem Same.trans(a:Same H H1)(b:Same H1 H2):Same H H2:=fun c o h=>b c o (a c o h)
theorem Same.free(e:Same H H')(h:H' l=Option.none):H l=Option.none:=by
 cases q:H l with
 |none=>rfl
 |some o=>
  rw[e l o q]at h;cases h
end L2
namespace Srt
open PySem PySem.W PyProof.Rows
structure Ord (lt:Nat->Nat->Bool):Prop where
 asym:∀a b,lt a b=true->lt b a=false
 tr:∀a b c,lt b a=false->lt c b=false->lt c a=false
theorem Ord.refl{lt:Nat->Nat->Bool}(O:Ord lt)(a:Nat):lt a a=false:=by
 cases e:lt a a with
 |false=>rfl
 |true=>exact(O.asym a a e).symm.trans e |>.symm
theorem Ord.up{lt:Nat->Nat->Bool}(O:Ord lt){a b c:Nat}(h:lt a b=true)(h2:lt c b=false):lt a c=true:=by
 cases e:lt a c with
 |true=>rfl
 |false=>
  have:=O.tr b c a h2 e;rw[h]at this;cases this
def Tri{α:Type}(lt:Nat->Nat->Bool)(N:Nat)(Post:α->Prop):KasT α->Prop
 | .ret a=>Post a
 | .ask i j k=>i < N/\j < N/\Tri lt N Post (k (lt i j))
variable{p:Array Nat}{N:Nat}
theorem cP{lt:Nat->Nat->Bool}{α β:Type}{Post:β->Prop}{f:α->KasT β}:∀ {t:KasT α},Tri lt N (fun a=>Tri lt N Post (f a)) t->Tri lt N Post (t.bind f)
 | .ret a,h=>h
 | .ask i j k,h=>⟨h.1,h.2.1,cP h.2.2⟩
theorem bH{lt:Nat->Nat->Bool}{α:Type}{P Q:α->Prop}(hPQ:∀a,P a->Q a):∀ {t:KasT α},Tri lt N P t->Tri lt N Q t
 | .ret a,h=>hPQ a h
 | .ask i j k,h=>⟨h.1,h.2.1,bH hPQ h.2.2⟩
theorem pR{lt:Nat->Nat->Bool}{α:Type}{cmp:Nat->Nat->(Bool->Shared->Prop)->Shared->Prop}{G:Shared->Prop}{Post:α->Prop}{Q:α->Shared->Prop}(hc:∀i j (R:Bool->Shared->Prop) s,i < N->j < N->G s->(∀s',G s'->R (lt i j) s')->cmp i j R s)(hQ:∀a s,Post a->G s->Q a s):∀ {t:KasT α} {s:Shared},Tri lt N Post t->G s->t.kasWp cmp Q s
 | .ret a,s,h,g=>hQ a s h g
 | .ask i j k,s,h,g=>hc i j _ s h.1 h.2.1 g fun s' g'=>pR hc hQ h.2.2 g'
def g(p:Array Nat)(k:Nat):Nat:=p.getD k 0
def Pm(N:Nat)(p:Array Nat):Prop:=p.toList.Perm (List.range N)
theorem Pm.size(h:Pm N p):p.size=N:=by
 have:=h.length_eq;rw[zX,A3]at this;exact this
theorem dC(k:Nat):g p k=(p[k]?).getD 0:=by
 unfold g;rw[Array.getD_eq_getD_getElem?]
theorem Pm.bd(h:Pm N p){k:Nat}(hk:k < N):g p k < N:=by
 have hs:=h.size;have:p[k]?=some (p[k]'(by omega)):=zY _
 rw[dC,this];have m:p[k]'(by omega)∈p.toList:=Array.mem_toList_iff.mpr (Array.getElem_mem _)
 exact zZ.mp (h.mem_iff.mp m)
theorem Pm.of{q:Array Nat}(h:Pm N p)(e:q.Perm p):Pm N q:=(Array.perm_iff_toList_perm.mp e).trans h
theorem Pm.rev(h:Pm N p)(i j:Nat):Pm N (kas_rev p i j):=h.of (mirror_perm _ _ _ _)
theorem dS(hj:j<=p.size)(k:Nat):g (kas_rev p i j) k=if i<=k/\k < j then g p (i+j - 1 - k)else g p k:=by
 rw[dC];unfold kas_rev;rw[getElem?_mirror_all hj];split<;>rw[dC]
theorem yK{d:Nat}(hs:src < p.size)(hd:d<=src)(k:Nat):g (bubble p src d) k=if k=src - d then g p src else if src - d < k/\k<=src then g p (k - 1)else g p k:=by
 rw[dC,getElem?_bubble hs d hd];split
 . rw[dC]
 . split<;>rw[dC]
def Up(lt:Nat->Nat->Bool)(p:Array Nat)(n:Nat):Prop:=∀i j,i<=j->j < n->lt (g p j) (g p i)=false
def Dn(lt:Nat->Nat->Bool)(p:Array Nat)(n:Nat):Prop:=∀i j,i<=j->j < n->lt (g p i) (g p j)=false
theorem u7{lt:Nat->Nat->Bool}(O:Ord lt)(h0:1<=n)(h:Up lt p n)(e:lt (g p n) (g p (n - 1))=false):Up lt p (n+1):=by
 intro i j a d;by_cases q:j < n
 . exact h i j a q
 . have c:j=n:=by omega
   subst c;by_cases b:i=j
   . subst b;exact O.refl _
   . exact O.tr _ _ _ (h i (j - 1) (by omega) (by omega)) e
theorem fe{lt:Nat->Nat->Bool}(O:Ord lt)(h0:1<=n)(h:Dn lt p n)(e:lt (g p (n - 1)) (g p n)=false):Dn lt p (n+1):=by
 intro i j a d;by_cases q:j < n
 . exact h i j a q
 . have c:j=n:=by omega
   subst c;by_cases b:i=j
   . subst b;exact O.refl _
   . exact O.tr _ _ _ e (h i (j - 1) (by omega) (by omega))
theorem vN{lt:Nat->Nat->Bool}(hn:n<=p.size)(h:Dn lt p n):Up lt (kas_rev p 0 n) n:=by
 intro i j b a;rw[dS hn,dS hn,if_pos ⟨zc _,a⟩,if_pos ⟨zc _,by omega⟩]
 exact h _ _ (by omega) (by omega)
theorem qm{lt:Nat->Nat->Bool}(O:Ord lt){p:Array Nat}(hp:Pm N p):∀(f n:Nat),1<=n->n+f<=N->Up lt p n->Tri lt N (fun m=>n<=m/\m<=n+f/\Up lt p m/\(m < n+f->lt (g p m) (g p (m - 1))=true)) (kas_asc p f n)
 |0,n,h1,h2,h=>⟨yV _,yV _,h,fun q=>absurd q (by omega)⟩
 |f+1,n,h1,h2,h=>by
  refine⟨Pm.bd hp (by omega),Pm.bd hp (by omega),?_⟩
  show Tri lt N _ (if lt (g p n) (g p (n - 1))=true then .ret n else kas_asc p f (n+1));by_cases e:lt (g p n) (g p (n - 1))=true
  . rw[if_pos e];exact⟨yV _,by omega,h,fun _=>e⟩
  . rw[if_neg e];refine bH (fun m hm=>?_) (qm O hp f (n+1) (by omega) (by omega) (u7 O h1 h (by simpa using e)))
    exact⟨by omega,by omega,hm.2.2.1,fun q=>hm.2.2.2 (by omega)⟩
def Eqv(lt:Nat->Nat->Bool)(p:Array Nat)(n q:Nat):Prop:=∀k,n - 1 - q<=k->k < n->lt (g p k) (g p (n - 1))=false/\lt (g p (n - 1)) (g p k)=false
theorem kP{lt:Nat->Nat->Bool}(O:Ord lt){q:Nat}(hn:n<=p.size)(hq:q+1<=n)(h:Dn lt p n)(he:Eqv lt p n q):Dn lt (kas_rev p (n - (q+1)) n) n:=by
 intro i j b a;rw[dS hn,dS hn];by_cases c:n - (q+1)<=i
 . rw[if_pos ⟨c,by omega⟩,if_pos ⟨by omega,a⟩]
   obtain⟨d,f⟩:=he (n - (q+1)+n - 1 - i) (by omega) (by omega)
   obtain⟨b1,b2⟩:=he (n - (q+1)+n - 1 - j) (by omega) (by omega)
   exact O.tr _ _ _ b2 d
 . rw[if_neg (by omega)]
   by_cases e:n - (q+1)<=j
   . rw[if_pos ⟨e,a⟩];exact h _ _ (by omega) (by omega)
   . rw[if_neg (by omega)]
     exact h _ _ b a
theorem ja{lt:Nat->Nat->Bool}(O:Ord lt):∀(f:Nat) (p:Array Nat) (n q:Nat),Pm N p->1<=n->n+f<=N->q+1<=n->Dn lt p n->Eqv lt p n q->
 Tri lt N (fun r=>Pm N r.1/\n<=r.2.1/\r.2.1<=n+f/\r.2.2+1<=r.2.1/\Dn lt r.1 r.2.1/\Eqv lt r.1 r.2.1 r.2.2) (kas_desc f p n q)
 |0,p,n,q,hp,h1,h2,hq,h,he=>⟨hp,yV _,yV _,hq,h,he⟩
 |f+1,p,n,q,hp,h1,h2,hq,h,he=>by
  have hs:=hp.size;refine⟨Pm.bd hp (by omega),Pm.bd hp (by omega),?_⟩
  show Tri lt N _ (if lt (g p n) (g p (n - 1))=true then(if q > 0 then kas_desc f (kas_rev p (n - (q+1)) n) (n+1) 0 else kas_desc f p (n+1) 0)else .ask (g p (n - 1)) (g p n) fun d=>if d=true then .ret (p,n,q)else kas_desc f p (n+1) (q+1))
  have one:∀i:Array Nat,Eqv lt i (n+1) 0:=fun i k k1 k2=>by
   have:k=n:=by omega
   subst this;exact⟨O.refl _,O.refl _⟩
  by_cases e:lt (g p n) (g p (n - 1))=true
  . rw[if_pos e];have e':=O.asym _ _ e;by_cases j:q > 0
    . rw[if_pos j];have d1:=kP O (by omega) hq h he
      have o:Dn lt (kas_rev p (n - (q+1)) n) (n+1):=by
       refine fe O h1 d1 ?_;rw[dS (by omega),dS (by omega),if_pos ⟨by omega,by omega⟩,if_neg (by omega)]
       obtain⟨b,l⟩:=he (n - (q+1)+n - 1 - (n - 1)) (by omega) (by omega)
       exact O.tr _ _ _ e' b
      refine bH (fun r hr=>?_) (ja O f _ (n+1) 0 (hp.rev _ _) (by omega) (by omega) (by omega) o (one _))
      exact⟨hr.1,by omega,by omega,hr.2.2.2⟩
    . rw[if_neg j];refine bH (fun r hr=>?_) (ja O f p (n+1) 0 hp (by omega) (by omega) (by omega) (fe O h1 h e') (one _))
      exact⟨hr.1,by omega,by omega,hr.2.2.2⟩
  . rw[if_neg e];have e1:lt (g p n) (g p (n - 1))=false:=by simpa using e
    refine⟨Pm.bd hp (by omega),Pm.bd hp (by omega),?_⟩
    show Tri lt N _ (if lt (g p (n - 1)) (g p n)=true then .ret (p,n,q)else kas_desc f p (n+1) (q+1));by_cases a:lt (g p (n - 1)) (g p n)=true
    . rw[if_pos a];exact⟨hp,yV _,(by show n<=n+(f+1);omega),hq,h,he⟩
    . rw[if_neg a];have c:lt (g p (n - 1)) (g p n)=false:=by simpa using a
      refine bH (fun r hr=>?_) (ja O f p (n+1) (q+1) hp (by omega) (by omega) (by omega) (fe O h1 h c) fun k k1 k2=>?_)
      . exact⟨hr.1,by omega,by omega,hr.2.2.2⟩
      . show lt (g p k) (g p n)=false/\lt (g p n) (g p k)=false;by_cases m:k=n
        . subst m;exact⟨O.refl _,O.refl _⟩
        . obtain⟨b,l⟩:=he k (by omega) (by omega)
          exact⟨O.tr _ _ _ c b,O.tr _ _ _ l e1⟩
theorem qk{lt:Nat->Nat->Bool}(O:Ord lt)(hp:Pm N p)(h1:1<=n)(hn:n<=N)(h:Dn lt p n):Tri lt N (fun r=>Pm N r.2/\1<=r.1/\r.1<=N/\Up lt r.2 r.1) (kas_tail3 n N p):=by
 unfold kas_tail3;refine cP (bH (fun m hm=>?_) (qm O (hp.rev 0 n) (N - n) n h1 (by omega) (vN (by rw[hp.size];exact hn) h)))
 exact⟨hp.rev 0 n,by omega,by omega,hm.2.2.1⟩
theorem gM{lt:Nat->Nat->Bool}(O:Ord lt)(hp:Pm N p)(hn:n+1<=N)(h:Dn lt p (n+1)):Tri lt N (fun r=>Pm N r.2/\1<=r.1/\r.1<=N/\Up lt r.2 r.1) (kas_descPart n N p):=by
 unfold kas_descPart;refine cP (bH (fun r hr=>?_) (ja O (N - (n+1)) p (n+1) 0 hp (by omega) (by omega) (by omega) h fun k k1 k2=>?_))
 . obtain⟨a,e,f,c,b,d⟩:=hr;split
   . exact qk O (a.rev _ _) (by omega) (by omega) (kP O (by rw[a.size];omega) c b d)
   . exact qk O a (by omega) (by omega) b
 . have:k=n:=by omega
   subst this;exact⟨O.refl _,O.refl _⟩
theorem uc{lt:Nat->Nat->Bool}(O:Ord lt)(hp:Pm N p)(hN:1<=N):Tri lt N (fun r=>Pm N r.2/\1<=r.1/\r.1<=N/\Up lt r.2 r.1) (kas_count N p):=by
 unfold kas_count
 have h:Up lt p 1:=fun i j b c=>by
  have:i=0:=by omega
  have:j=0:=by omega
  subst_vars
  exact O.refl _
 refine cP (bH (fun n hn=>?_) (qm O hp (N - 1) 1 (yV _) (by omega) h))
 obtain⟨b1,b2,b3,b4⟩:=hn;by_cases e:(n==N)=true
 . rw[if_pos e];exact⟨hp,b1,by omega,b3⟩
 . rw[if_neg e];have e':n≠N:=by simpa using e
   have l1:=b4 (by omega)
   by_cases n1:n > 1
   . rw[if_pos n1];refine⟨Pm.bd hp (by omega),Pm.bd hp (by omega),?_⟩
     show Tri lt N _ (if lt (g p 0) (g p (n - 1))=true then .ret (n,p)else kas_descPart n N (kas_rev p 0 n));by_cases d:lt (g p 0) (g p (n - 1))=true
     . rw[if_pos d];exact⟨hp,b1,by omega,b3⟩
     . rw[if_neg d];have f:lt (g p 0) (g p (n - 1))=false:=by simpa using d
       have a:∀i j,i < n->j < n->lt (g p i) (g p j)=false:=fun i j hi c=>
        O.tr (g p j) (g p 0) (g p i) (O.tr _ _ _ (b3 j (n - 1) (by omega) (by omega)) f) (b3 0 i (zc _) hi)
       have hs:=hp.size;refine gM O (hp.rev 0 n) (by omega) (fe O (by omega) (fun i j b c=>?_) ?_)
       . rw[dS (by omega),dS (by omega),if_pos ⟨zc _,by omega⟩,if_pos ⟨zc _,c⟩]
         exact a _ _ (by omega) (by omega)
       . rw[dS (by omega),dS (by omega),if_pos ⟨zc _,by omega⟩,if_neg (by omega)]
         exact O.tr _ _ _ (O.asym _ _ l1) (a _ _ (by omega) (by omega))
   . rw[if_neg n1];have en:n=1:=by omega
     subst en;refine gM O hp (by omega) (fe O (yV _) (fun i j b c=>?_) (O.asym _ _ l1))
     have:i=0:=by omega
     have:j=0:=by omega
     subst_vars
     exact O.refl _
theorem j9{lt:Nat->Nat->Bool}(O:Ord lt){p:Array Nat}{k:Nat}(hp:Pm N p)(hk:k < N)(h:Up lt p k):∀(f l r:Nat),l<=r->r<=k->r - l<=f->(∀i,i < l->lt (g p k) (g p i)=false)->(∀i,r<=i->i < k->lt (g p k) (g p i)=true)->
 Tri lt N (fun m=>m<=k/\(∀i,i < m->lt (g p k) (g p i)=false)/\∀i,m<=i->i < k->lt (g p k) (g p i)=true) (kas_place p k f l r)
 |0,l,r,h1,h2,h3,a,b=>by
  have:l=r:=by omega
  subst this;exact⟨h2,a,b⟩
 |f+1,l,r,h1,h2,h3,a,b=>by
  show Tri lt N _ (if l>=r then .ret l else .ask (p.getD k 0) (p.getD ((l+r) / 2) 0) fun c=>if c=true then kas_place p k f l ((l+r) / 2)else kas_place p k f ((l+r) / 2+1) r);by_cases e:l>=r
  . rw[if_pos e];have:l=r:=by omega
    subst this;exact⟨h2,a,b⟩
  . rw[if_neg e];refine⟨Pm.bd hp hk,Pm.bd hp (by omega),?_⟩
    show Tri lt N _ (if lt (g p k) (g p ((l+r) / 2))=true then kas_place p k f l ((l+r) / 2)else kas_place p k f ((l+r) / 2+1) r);by_cases c:lt (g p k) (g p ((l+r) / 2))=true
    . rw[if_pos c];refine j9 O hp hk h f l ((l+r) / 2) (by omega) (by omega) (by omega) a fun i i1 i2=>?_
      by_cases q:r<=i
      . exact b i q i2
      . exact O.up c (h _ _ i1 i2)
    . rw[if_neg c];have c':lt (g p k) (g p ((l+r) / 2))=false:=by simpa using c
      refine j9 O hp hk h f ((l+r) / 2+1) r (by omega) h2 (by omega) (fun i i1=>?_) b
      exact O.tr _ _ _ (h i ((l+r) / 2) (by omega) (by omega)) c'
theorem vm{lt:Nat->Nat->Bool}(O:Ord lt):∀(f:Nat) (p:Array Nat) (k:Nat),Pm N p->k+f<=N->Up lt p k->Tri lt N (fun q=>Pm N q/\Up lt q (k+f)) (kas_bin f p k)
 |0,p,k,hp,_,h=>⟨hp,h⟩
 |f+1,p,k,hp,hk,h=>by
  have hs:=hp.size;show Tri lt N _ ((kas_place p k k 0 k).bind fun l=>kas_bin f (bubble p k (k - l)) (k+1));refine cP (bH (fun l hl=>?_) (j9 O hp (by omega) h k 0 k (zc _) (yV _) (by omega) (fun i hi=>absurd hi (by omega)) fun i h1 h2=>absurd h1 (by omega)))
  obtain⟨l1,l2,m⟩:=hl;have e:k - (k - l)=l:=by omega
  have hb:∀i,g (bubble p k (k - l)) i=if i=l then g p k else if l < i/\i<=k then g p (i - 1)else g p i:=fun i=>by
   rw[yK (by omega) (by omega),e]
  have u:Up lt (bubble p k (k - l)) (k+1):=by
   intro i j b n;rw[hb,hb];by_cases d:j=l
   . rw[if_pos d];by_cases a:i=l
     . rw[if_pos a];exact O.refl _
     . rw[if_neg a,if_neg (by omega)]
       exact l2 i (by omega)
   . rw[if_neg d];by_cases c:l < j/\j<=k
     . rw[if_pos c];by_cases a:i=l
       . rw[if_pos a];exact O.asym _ _ (m (j - 1) (by omega) (by omega))
       . rw[if_neg a];by_cases i2:l < i/\i<=k
         . rw[if_pos i2];exact h _ _ (by omega) (by omega)
         . rw[if_neg i2];exact h _ _ (by omega) (by omega)
     . rw[if_neg c,if_neg (by omega),if_neg (by omega)]
       exact h _ _ b (by omega)
  refine bH (fun q hq=>?_) (vm O f _ (k+1) (hp.of (bubble_perm _ _ _)) (by omega) u)
  rw[show k+(f+1)=k+1+f by omega]
  exact hq
theorem vR{lt:Nat->Nat->Bool}(O:Ord lt)(hN:1<=N):Tri lt N (fun p=>Pm N p/\Up lt p N) (kas_sort N):=by
 unfold kas_sort
 have h0:Pm N (List.toArray (List.range N)):=by
  unfold Pm;simp
 refine cP (bH (fun r hr=>?_) (uc O h0 hN));obtain⟨b,d,f,a⟩:=hr;by_cases e:r.1 < N
 . rw[if_pos e];have c:max r.1 1=r.1:=by omega
   rw[c];have:=vm O (N - r.1) r.2 r.1 b (by omega) a
   rw[show r.1+(N - r.1)=N by omega]at this
   exact this
 . rw[if_neg e];have:r.1=N:=by omega
   rw[this]at a;exact⟨b,a⟩
end Srt
namespace L2
open PySem PySem.Spec PyProof.Rows
abbrev TSX:=Ends->XK->St->Hp->Prop
def Big(i:Int):Prop:=i.natAbs < 2^8000
theorem aR:OpR X (binaryOp .Mult) (rI (fun i j=>Big i/\Big j) fun i j=> .int (i*j)):=opI fun _ _ _ _ _ _ _ hc q=>
 PyProof.Rows.mul_int q (IntMulOk.of_le (m:=8000) (n:=8000) (intBits_le_iff.mpr hc.1) (intBits_le_iff.mpr hc.2) (by decide))
theorem tP{i j:Int}(h:Big j):Builtin.divisionGoesByPylong i j=false:=by
 refine PyProof.noPylong_of_log2 ?_;by_cases z:j.natAbs=0
 . rw[z];decide
 . exact Nat.lt_trans ((Nat.log2_lt z).mpr h) (by decide)
theorem cE:OpR X (binaryOp .FloorDiv) (rI (fun _ j=>0 < j/\Big j) fun i j=> .int (i / j)):=opI fun i j _ _ _ _ _ hc q=>by
 have h1:(0:Int) < j:=hc.1;exact floordiv_int (by omega) (by rw[zO i (by omega)];exact q) (.inl (tP hc.2))
theorem ko:OpR X (binaryOp .FloorDiv) (rI (fun _ j=>j≠0/\Big j) fun i j=> .int (i.fdiv j)):=opI fun _ _ _ _ _ _ _ hc q=>floordiv_int hc.1 q (.inl (tP hc.2))
theorem g8:bootBuiltins "isinstance"=some (.builtin "isinstance"):=by decide +kernel
theorem ip:bootBuiltins "abs"=some (.builtin "abs"):=by decide +kernel
theorem wo(hu:X.A.units+1 < cLine):OpR X (compareOp .Eq) (fun x y H Q=>∃(p q:Addr) (a b c d:Int),x= .ref p/\y= .ref q/\SqT X.K H p [.int a, .int b]/\SqT X.K H q [.int c, .int d]/\Q (.bl (decide (a=c/\b=d))) H):=by
 intro pins s σ H x y v u Q I o l h;obtain⟨p,q,a,b,c,d,e1,g,hp,hq,k⟩:=h;subst e1 g;cases (show v=Value.ref p from o);cases (show u=Value.ref q from l);obtain⟨its,r1,t1,_⟩:=I.tuple hp;obtain⟨f,r2,t2,_⟩:=I.tuple hq;obtain⟨r,t,rfl,⟨m,rfl⟩,⟨i,rfl⟩⟩:=Vals.two r1;obtain⟨w,u4,rfl,⟨n,rfl⟩,⟨w4,rfl⟩⟩:=Vals.two r2;refine PySem.SeqAt.eq_tupleAt (e:=fun j=>if j=0 then a==c else b==d) (show s.heap.IsTuple p _ from t1) (show s.heap.IsTuple q _ from t2) (by omega) (fun j h1 h2=>?_) ?_
 . match j,h1,h2 with
   |0,_,_=>exact PySem.SeqAt.EqAt.int_int a m c n
   |1,_,_=>exact PySem.SeqAt.EqAt.int_int b i d w4
   |j+2,h1,_=>
    have:j+2 < 2:=h1;omega
 . refine Y5 (.bl (decide (a=c/\b=d))) H I ?_ k;show Value.bool (((a==c)&& ((b==d)&&true))&&true)=Value.bool (decide (a=c/\b=d));congr 1;rw[Bool.and_true,Bool.and_true,Az];simp
end L2
namespace Tre
open PySem PySem.Spec PyProof.Rows L2
inductive Tr where
 |non
 |bl (b:Bool)
 |int (i:Int)
 |str (x:Str)
 |tup (ts:List Tr)
 |ls
mutual
noncomputable def Tr.depth:Tr->Nat
 | .tup ts=>Trs.depth ts+1
 |_=>0
noncomputable def Trs.depth:List Tr->Nat
 | []=>0
 |t::ts=>max (Tr.depth t) (Trs.depth ts)
end
mutual
def Tr.pure:Tr->Prop
 | .tup ts=>Trs.pure ts
 | .ls=>False
 |_=>True
def Trs.pure:List Tr->Prop
 | []=>True
 |t::ts=>Tr.pure t/\Trs.pure ts
end
mutual
def TrAt(H:Hp):V->Tr->Prop
 |v, .non=>v= .non
 |v, .bl b=>v= .bl b
 |v, .int i=>v= .int i
 |v, .str x=>v= .str x
 |v, .tup ts=>∃r vs,v= .ref r/\H r=some (.tup vs)/\TrsAt H vs ts
 |v, .ls=>∃r xs,v= .ref r/\H r=some (.lst xs)
def TrsAt(H:Hp):List V->List Tr->Prop
 |vs,[]=>vs= []
 |vs,t::ts=>∃v r,vs=v::r/\TrAt H v t/\TrsAt H r ts
end
structure Kd (H H':Hp):Prop where
 tup:∀a xs,H a=some (.tup xs)->H' a=some (.tup xs)
 lst:∀a xs,H a=some (.lst xs)->∃ys,H' a=some (.lst ys)
theorem Kd.trans(a:Kd H H1)(b:Kd H1 H2):Kd H H2:=⟨fun x o e=>b.tup x o (a.tup x o e),fun x o e=>by
 obtain⟨ys,e1⟩:=a.lst x o e
 exact b.lst x ys e1⟩
theorem Kd.of_same(s:Same H H'):Kd H H':=⟨fun a xs e=>s a _ e,fun a xs e=>⟨xs,s a _ e⟩⟩
theorem Kd.upd{p:Addr}(h:H p=some (.lst xs)):Kd H (upd H p (.lst ys)):=by
 refine⟨fun a zs e=>?_,fun a zs e=>?_⟩
 . rw[ae]
   . exact e
   . intro z;rw[z,h]at e;cases e
 . by_cases z:a=p
   . subst z;exact⟨ys,a8⟩
   . exact⟨zs,(ae z).trans e⟩
mutual
theorem TrAt.mono{H H':Hp}(k:Kd H H'):∀ {v:V} {t:Tr},TrAt H v t->TrAt H' v t
 |v, .non,h=>by unfold TrAt at h ⊢;exact h
 |v, .bl b,h=>by unfold TrAt at h ⊢;exact h
 |v, .int i,h=>by unfold TrAt at h ⊢;exact h
 |v, .str x,h=>by unfold TrAt at h ⊢;exact h
 |v, .ls,h=>by
  unfold TrAt at h ⊢;obtain⟨r,xs,e,h⟩:=h;obtain⟨ys,h'⟩:=k.lst r xs h;exact⟨r,ys,e,h'⟩
 |v, .tup ts,h=>by
  unfold TrAt at h ⊢;obtain⟨r,vs,e,h1,h2⟩:=h;exact⟨r,vs,e,k.tup _ _ h1,TrsAt.mono k h2⟩
theorem TrsAt.mono{H H':Hp}(k:Kd H H'):∀ {vs:List V} {ts:List Tr},TrsAt H vs ts->TrsAt H' vs ts
 |vs,[],h=>by unfold TrsAt at h ⊢;exact h
 |vs,t::ts,h=>by
  unfold TrsAt at h ⊢;obtain⟨v,r,e,h1,h2⟩:=h;exact⟨v,r,e,TrAt.mono k h1,TrsAt.mono k h2⟩
end
theorem TrsAt.nil:TrsAt H [] []:=by unfold TrsAt;rfl
theorem TrsAt.cons{H:Hp}{v:V}{t:Tr}{vs:List V}{ts:List Tr}(h:TrAt H v t)(r:TrsAt H vs ts):TrsAt H (v::vs) (t::ts):=by
 unfold TrsAt;exact⟨v,vs,rfl,h,r⟩
variable{ts:List Tr}{t u:Tr}
theorem TrsAt.inv(h:TrsAt H vs (t::ts)):∃v r,vs=v::r/\TrAt H v t/\TrsAt H r ts:=by
 unfold TrsAt at h;exact h
theorem TrsAt.len{H:Hp}:∀ {vs:List V} {ts:List Tr},TrsAt H vs ts->vs.length=ts.length
 |vs,[],h=>by
  unfold TrsAt at h;rw[h];rfl
 |vs,t::ts,h=>by
  obtain⟨v,r,e,_,h2⟩:=h.inv;rw[e,zg,zg,h2.len]
theorem TrsAt.app{H:Hp}{ws:List V}{us:List Tr}(b:TrsAt H ws us):∀ {vs:List V} {ts:List Tr},TrsAt H vs ts->TrsAt H (vs++ws) (ts++us)
 |vs,[],h=>by
  unfold TrsAt at h;subst h;exact b
 |vs,t::ts,h=>by
  obtain⟨v,r,e,h1,h2⟩:=h.inv;subst e;exact .cons h1 (TrsAt.app b h2)
theorem TrsAt.get{H:Hp}:∀ {vs:List V} {ts:List Tr} {i:Nat} {t:Tr},TrsAt H vs ts->ts[i]?=some t->∃v,vs[i]?=some v/\TrAt H v t
 |vs,[],i,t,_,e=>by simp at e
 |vs,a::ts,0,t,h,e=>by
  obtain⟨v,r,rfl,h1,h2⟩:=h.inv;simp at e;subst e;exact Y3 v rfl h1
 |vs,a::ts,i+1,t,h,e=>by
  obtain⟨v,r,rfl,h1,h2⟩:=h.inv;obtain⟨u,e1,b⟩:=h2.get (i:=i) (by simpa using e)
  exact Y3 u (by simpa using e1) b
theorem TrsAt.get'(h:TrsAt H vs ts)(e:vs[i]?=some v):∃t,ts[i]?=some t/\TrAt H v t:=by
 have hl:=h.len;have hi:i < vs.length:=(yZ.mp e).1;obtain⟨u,e1,a⟩:=h.get (i:=i) (t:=ts[i]'(by omega)) (yS _)
 rw[e]at e1;cases e1;exact⟨_,yS _,a⟩
mutual
theorem TrAt.det{H:Hp}:∀ {v:V} {t u:Tr},TrAt H v t->TrAt H v u->t=u
 |v, .non,u,h1,h2=>by
  unfold TrAt at h1;subst h1;cases u<;>unfold TrAt at h2<;>first|rfl|(cases h2;done)|(obtain⟨_,_,e,_⟩:=h2;cases e)
 |v, .bl b,u,h1,h2=>by
  unfold TrAt at h1;subst h1;cases u<;>unfold TrAt at h2<;>first|(cases h2;rfl)|(cases h2;done)|(obtain⟨_,_,e,_⟩:=h2;cases e)
 |v, .int b,u,h1,h2=>by
  unfold TrAt at h1;subst h1;cases u<;>unfold TrAt at h2<;>first|(cases h2;rfl)|(cases h2;done)|(obtain⟨_,_,e,_⟩:=h2;cases e)
 |v, .str b,u,h1,h2=>by
  unfold TrAt at h1;subst h1;cases u<;>unfold TrAt at h2<;>first|(cases h2;rfl)|(cases h2;done)|(obtain⟨_,_,e,_⟩:=h2;cases e)
 |v, .ls,u,h1,h2=>by
  unfold TrAt at h1;obtain⟨r,xs,rfl,h1⟩:=h1;cases u<;>unfold TrAt at h2<;>first|rfl|(cases h2;done)|(obtain⟨_,_,e,h2,_⟩:=h2;cases e;rw[h1]at h2;cases h2)
 |v, .tup ts, .tup us,h1,h2=>by
  unfold TrAt at h1 h2;obtain⟨r,vs,rfl,h1,h3⟩:=h1;obtain⟨r',a,e,h2,c⟩:=h2;cases e;rw[h1]at h2;cases h2;rw[TrsAt.det h3 c]
 |v, .tup ts, .non,h1,h2=>by unfold TrAt at h1 h2;obtain⟨_,_,e,_⟩:=h1;rw[h2]at e;cases e
 |v, .tup ts, .bl _,h1,h2=>by unfold TrAt at h1 h2;obtain⟨_,_,e,_⟩:=h1;rw[h2]at e;cases e
 |v, .tup ts, .int _,h1,h2=>by unfold TrAt at h1 h2;obtain⟨_,_,e,_⟩:=h1;rw[h2]at e;cases e
 |v, .tup ts, .str _,h1,h2=>by unfold TrAt at h1 h2;obtain⟨_,_,e,_⟩:=h1;rw[h2]at e;cases e
 |v, .tup ts, .ls,h1,h2=>by
  unfold TrAt at h1 h2;obtain⟨r,vs,rfl,h1,_⟩:=h1;obtain⟨r',xs,e,h2⟩:=h2;cases e;rw[h1]at h2;cases h2
theorem TrsAt.det{H:Hp}:∀ {vs:List V} {ts us:List Tr},TrsAt H vs ts->TrsAt H vs us->ts=us
 |vs,[],[],_,_=>rfl
 |vs,[],u::us,h1,h2=>by
  have a:=h1.len;have b:=h2.len;rw[a]at b;simp at b
 |vs,t::ts,[],h1,h2=>by
  have a:=h1.len;have b:=h2.len;rw[a]at b;simp at b
 |vs,t::ts,u::us,h1,h2=>by
  obtain⟨v,r,rfl,h3,f⟩:=h1.inv;obtain⟨v',r',e,c,d⟩:=h2.inv;cases e;rw[TrAt.det h3 c,TrsAt.det f d]
end
mutual
noncomputable def eqT:Tr->Tr->Bool
 | .non, .non=>true
 | .bl a, .bl b=>a==b
 | .bl a, .int i=>(if a then 1 else 0)==i
 | .int i, .bl b=>i==(if b then 1 else 0)
 | .int i, .int j=>i==j
 | .str x, .str y=>x==y
 | .tup ts, .tup us=>eqTs ts us
 | .ls, .ls=>true
 |_,_=>false
noncomputable def eqTs:List Tr->List Tr->Bool
 | [],[]=>true
 |t::ts,u::us=>eqT t u&&eqTs ts us
 |_,_=>false
end
mutual
theorem kO:∀t:Tr,eqT t t=true
 | .non=>by simp[eqT]
 | .bl _=>by simp[eqT]
 | .int _=>by simp[eqT]
 | .str _=>by simp[eqT]
 | .ls=>by simp[eqT]
 | .tup ts=>by simp only[eqT];exact eqTs_refl ts
theorem eqTs_refl:∀ts:List Tr,eqTs ts ts=true
 | []=>by simp[eqTs]
 |t::ts=>by simp[eqTs,kO t,eqTs_refl ts]
end
noncomputable def eqJ(ts us:List Tr)(j:Nat):Bool:=match ts[j]?,us[j]? with
 |some t,some u=>eqT t u
 |_,_=>true
theorem t9{us:List Tr}(h1:ts[j]?=some t)(h2:us[j]?=some u):eqJ ts us j=eqT t u:=by
 unfold eqJ;rw[h1,h2]
theorem dE:∀(ts us:List Tr),eqTs ts us=((List.range (min ts.length us.length)).all (eqJ ts us)&&ts.length==us.length)
 | [],[]=>by simp[eqTs]
 | [],u::us=>by simp[eqTs]
 |t::ts,[]=>by simp[eqTs]
 |t::ts,u::us=>by
  simp only[eqTs,zg];rw[dE ts us,show min (ts.length+1) (us.length+1)=min ts.length us.length+1 by omega,List.range_succ_eq_map,List.all_cons,List.all_map]
  have e:(eqJ (t::ts) (u::us)) ∘ Nat.succ=eqJ ts us:=by
   funext j;simp[eqJ]
  rw[e];simp[eqJ,Bool.and_assoc]
theorem oF{b:Addr}(I:Inv X pins σ H s)(ha:H a=some (.tup xs))(hb:H b=some (.tup ys))(hu:A.units < cLine)(e:Nat->Bool)(hne:a≠b)(he:∀j x y u v,xs[j]?=some x->ys[j]?=some y->RelV x u->RelV y v->SeqAt.EqAt A.in1 s u v (e j)):
 SeqAt.EqAt A s (.ref a) (.ref b) ((List.range (min xs.length ys.length)).all e&&xs.length==ys.length):=by
 obtain⟨us,r1,g,_⟩:=I.tuple (SqT.of ha);obtain⟨ws,r2,p2,_⟩:=I.tuple (SqT.of hb);have l1:=r1.length;have l2:=r2.length
 have:=SeqAt.RcAt.tuples (A:=A) (e:=e) (show s.heap.IsTuple a us.toArray from g) (show s.heap.IsTuple b ws.toArray from p2) hu fun j h1 h2=>by
  have d:j < us.length:=by simpa using h1
  have c:j < ws.length:=by simpa using h2
  obtain⟨u,e1,h⟩:=r1.get (i:=j) (x:=xs[j]'(by omega)) (yS _)
  obtain⟨v,f,k⟩:=r2.get (i:=j) (x:=ys[j]'(by omega)) (yS _)
  have m:us.toArray[j]=u:=by rw[List.getElem_toArray];rw[yS d]at e1;exact z9 e1
  have l:ws.toArray[j]=v:=by rw[List.getElem_toArray];rw[yS c]at f;exact z9 f
  rw[m,l];exact he j _ _ u v (yS _) (yS _) h k
 rw[yX,yX,<-l1,<-l2]at this;exact SeqAt.EqAt.of_refs hne this
theorem bM:∀ {ts:List Tr} {t:Tr},t∈ts->t.depth<=Trs.depth ts
 |a::ts,t,h=>by
  unfold Trs.depth;rcases yY.mp h with rfl|h
  . omega
  . have:=bM h;omega
theorem dw:∀ {ts:List Tr} {t:Tr},Trs.pure ts->t∈ts->t.pure
 |a::ts,t,p,h=>by
  unfold Trs.pure at p;rcases yY.mp h with rfl|h
  . exact p.1
  . exact dw p.2 h
theorem cQ(I:Inv X pins σ H s)(h:H r=some (.tup vs)):∃its:Array Value,s.heap.IsTuple r its:=by
 obtain⟨us,_,p,_⟩:=I.tuple (SqT.of h);exact⟨_,p⟩
theorem cR(I:Inv X pins σ H s)(h:H r=some (.lst vs)):∃its:Array Value,s.heap.IsList r its:=by
 obtain⟨us,_,p,_⟩:=I.list (SqL.of h);exact⟨_,p.isList⟩
theorem nG(I:Inv X pins σ H s){w:V}{a b:Value}(hd:∀ts,t≠ .tup ts)(hp:t.pure\/u.pure)(h1:TrAt H v t)(h2:TrAt H w u)(r1:RelV v a)(r2:RelV w b)(hu0:A.units < cLine):SeqAt.EqAt A s a b (eqT t u):=by
 cases t with
 |tup ts=>exact(hd ts rfl).elim
 |non=>
  unfold TrAt at h1;subst h1;cases (show a=Value.none from r1)
  cases u with
  |non=>unfold TrAt at h2;subst h2;cases (show b=Value.none from r2);simp only[eqT];exact SeqAt.EqAt.same _
  |bl c=>unfold TrAt at h2;subst h2;cases (show b=Value.bool c from r2);simp only[eqT];exact SeqAt.EqAt.none_bool c
  |int c=>unfold TrAt at h2;subst h2;obtain⟨t',rfl⟩:=r2;simp only[eqT];exact SeqAt.EqAt.none_int c t'
  |str c=>unfold TrAt at h2;subst h2;obtain⟨t',rfl⟩:=r2;simp only[eqT];exact SeqAt.EqAt.none_str c t'
  |tup us=>unfold TrAt at h2;obtain⟨r,vs,rfl,e,_⟩:=h2;cases r2;obtain⟨its,p⟩:=cQ I e;simp only[eqT];exact SeqAt.EqAt.none_tuple p hu0
  |ls=>unfold TrAt at h2;obtain⟨r,vs,rfl,e⟩:=h2;cases r2;obtain⟨its,p⟩:=cR I e;simp only[eqT];exact SeqAt.EqAt.none_list p hu0
 |bl d=>
  unfold TrAt at h1;subst h1;cases (show a=Value.bool d from r1)
  cases u with
  |non=>unfold TrAt at h2;subst h2;cases (show b=Value.none from r2);simp only[eqT];exact SeqAt.EqAt.bool_none d
  |bl c=>unfold TrAt at h2;subst h2;cases (show b=Value.bool c from r2);simp only[eqT];exact SeqAt.EqAt.bool_bool d c
  |int c=>unfold TrAt at h2;subst h2;obtain⟨t',rfl⟩:=r2;simp only[eqT];exact SeqAt.EqAt.bool_int d c t'
  |str c=>unfold TrAt at h2;subst h2;obtain⟨t',rfl⟩:=r2;simp only[eqT];exact SeqAt.EqAt.bool_str d c t'
  |tup us=>unfold TrAt at h2;obtain⟨r,vs,rfl,e,_⟩:=h2;cases r2;obtain⟨its,p⟩:=cQ I e;simp only[eqT];exact SeqAt.EqAt.bool_tuple d p hu0
  |ls=>unfold TrAt at h2;obtain⟨r,vs,rfl,e⟩:=h2;cases r2;obtain⟨its,p⟩:=cR I e;simp only[eqT];exact SeqAt.EqAt.bool_list d p hu0
 |int d=>
  unfold TrAt at h1;subst h1;obtain⟨t0,rfl⟩:=r1
  cases u with
  |non=>unfold TrAt at h2;subst h2;cases (show b=Value.none from r2);simp only[eqT];exact SeqAt.EqAt.int_none d t0
  |bl c=>unfold TrAt at h2;subst h2;cases (show b=Value.bool c from r2);simp only[eqT];exact SeqAt.EqAt.int_bool d t0 c
  |int c=>unfold TrAt at h2;subst h2;obtain⟨t',rfl⟩:=r2;simp only[eqT];exact SeqAt.EqAt.int_int d t0 c t'
  |str c=>unfold TrAt at h2;subst h2;obtain⟨t',rfl⟩:=r2;simp only[eqT];exact SeqAt.EqAt.int_str d t0 c t'
  |tup us=>unfold TrAt at h2;obtain⟨r,vs,rfl,e,_⟩:=h2;cases r2;obtain⟨its,p⟩:=cQ I e;simp only[eqT];exact SeqAt.EqAt.int_tuple d t0 p hu0
  |ls=>unfold TrAt at h2;obtain⟨r,vs,rfl,e⟩:=h2;cases r2;obtain⟨its,p⟩:=cR I e;simp only[eqT];exact SeqAt.EqAt.int_list d t0 p hu0
 |str d=>
  unfold TrAt at h1;subst h1;obtain⟨t0,rfl⟩:=r1
  cases u with
  |non=>unfold TrAt at h2;subst h2;cases (show b=Value.none from r2);simp only[eqT];exact SeqAt.EqAt.str_none d t0
  |bl c=>unfold TrAt at h2;subst h2;cases (show b=Value.bool c from r2);simp only[eqT];exact SeqAt.EqAt.str_bool d t0 c
  |int c=>unfold TrAt at h2;subst h2;obtain⟨t',rfl⟩:=r2;simp only[eqT];exact SeqAt.EqAt.str_int d t0 c t'
  |str c=>unfold TrAt at h2;subst h2;obtain⟨t',rfl⟩:=r2;simp only[eqT];exact SeqAt.EqAt.str_str d t0 c t'
  |tup us=>unfold TrAt at h2;obtain⟨r,vs,rfl,e,_⟩:=h2;cases r2;obtain⟨its,p⟩:=cQ I e;simp only[eqT];exact SeqAt.EqAt.str_tuple d t0 p hu0
  |ls=>unfold TrAt at h2;obtain⟨r,vs,rfl,e⟩:=h2;cases r2;obtain⟨its,p⟩:=cR I e;simp only[eqT];exact SeqAt.EqAt.str_list d t0 p hu0
 |ls=>
  unfold TrAt at h1;obtain⟨j,h,rfl,i⟩:=h1;cases r1;obtain⟨g,f⟩:=cR I i
  cases u with
  |non=>unfold TrAt at h2;subst h2;cases (show b=Value.none from r2);simp only[eqT];exact SeqAt.EqAt.list_none f hu0
  |bl c=>unfold TrAt at h2;subst h2;cases (show b=Value.bool c from r2);simp only[eqT];exact SeqAt.EqAt.list_bool c f hu0
  |int c=>unfold TrAt at h2;subst h2;obtain⟨t',rfl⟩:=r2;simp only[eqT];exact SeqAt.EqAt.list_int c t' f hu0
  |str c=>unfold TrAt at h2;subst h2;obtain⟨t',rfl⟩:=r2;simp only[eqT];exact SeqAt.EqAt.list_str c t' f hu0
  |tup us=>unfold TrAt at h2;obtain⟨r,vs,rfl,e,_⟩:=h2;cases r2;obtain⟨its,p⟩:=cQ I e;simp only[eqT];exact SeqAt.EqAt.list_tuple f p hu0
  |ls=>rcases hp with hp|hp<;>simp[Tr.pure]at hp
theorem ga(I:Inv X pins σ H s):∀(n:Nat) {A:Around} {t u:Tr} {v w:V} {a b:Value},t.depth<=n->(t.pure\/u.pure)->TrAt H v t->TrAt H w u->RelV v a->RelV w b->A.units+n+1 < cLine->SeqAt.EqAt A s a b (eqT t u):=by
 intro n
 induction n with
 |zero=>
  intro A t u v w a b hd hp h1 h2 r1 r2 hu;refine nG I (fun ts e=>?_) hp h1 h2 r1 r2 (by omega)
  subst e;simp[Tr.depth]at hd
 |succ n ih=>
  intro A t u v w a b hd hp h1 h2 r1 r2 hu;have d:A.units < cLine:=by omega
  cases t with
  |tup ts=>
   have i:=h1;have g:=h2;unfold TrAt at h1;obtain⟨r0,m,rfl,k,k0⟩:=h1;cases r1;obtain⟨l,f⟩:=cQ I k;unfold Tr.depth at hd
   cases u with
   |non=>unfold TrAt at h2;subst h2;cases (show b=Value.none from r2);simp only[eqT];exact SeqAt.EqAt.tuple_none f d
   |bl c=>unfold TrAt at h2;subst h2;cases (show b=Value.bool c from r2);simp only[eqT];exact SeqAt.EqAt.tuple_bool c f d
   |int c=>unfold TrAt at h2;subst h2;obtain⟨t',rfl⟩:=r2;simp only[eqT];exact SeqAt.EqAt.tuple_int c t' f d
   |str c=>unfold TrAt at h2;subst h2;obtain⟨t',rfl⟩:=r2;simp only[eqT];exact SeqAt.EqAt.tuple_str c t' f d
   |ls=>unfold TrAt at h2;obtain⟨r,vs,rfl,h⟩:=h2;cases r2;obtain⟨its,p⟩:=cR I h;simp only[eqT];exact SeqAt.EqAt.tuple_list f p d
   |tup us=>
    unfold TrAt at h2;obtain⟨r,vs,rfl,h,k1⟩:=h2;cases r2;by_cases z:r0=r
    . subst z;rw[<-TrAt.det i g,kO];exact SeqAt.EqAt.same _
    . have:=oF I k h d (eqJ ts us) z fun j x y u' v' m1 m2 o q=>by
       obtain⟨t1,n1,a1⟩:=k0.get' m1;obtain⟨t2,n2,a2⟩:=k1.get' m2;rw[t9 n1 n2];refine ih (A:=A.in1) (by have:=bM (z5 n1);omega) ?_ a1 a2 o q (by show A.units+1+n+1 < cLine;omega)
       rcases hp with hp|hp
       . unfold Tr.pure at hp;exact .inl (dw hp (z5 n1))
       . unfold Tr.pure at hp;exact .inr (dw hp (z5 n2))
      rw[k0.len,k1.len,<-dE]at this;simp only[eqT];exact this
  |_=>exact nG I (fun ts e=>by cases e) hp h1 h2 r1 r2 d
open PySem.AutoSeq1 (wpAny_loadPart')
def LtAt(A:Around)(s:Shared)(y x:Value)(b:Bool):Prop:=
 ∀(prog:Program) (w:World) (E:Value->Shared->Prop) (Q:Value->Shared->Prop),Q (.bool b) s->wpAny (model prog w) A (richCompare .Lt y x) Q E s
def bD(A:Around)(s:Shared):List Value->List Value->List (Bool×Bool)->Prop
 |v::vs,w::ws,(e,l)::q=>SeqAt.EqAt A s v w e/\(e=false->LtAt A s v w l)/\(e=true->bD A s vs ws q)
 | [],_,q=>q= []
 |_,[],q=>q= []
 |_,_,_=>False
noncomputable def lexV(fin:Bool):List (Bool×Bool)->Bool
 | []=>fin
 |(e,l)::q=>if e=true then lexV fin q else l
theorem j6(l b:Addr)(items items2:Array Value)(n n2:Nat)(dd dd2:Option Addr)(sl sl2:Array (Option Value))(q:List (Bool×Bool)):
 Meets (Builtin.«tuple.__lt__» ⟨[.ref l, .ref b],[]⟩)
  (fun A R s=>s.heap.get? l=some {cls:= .type "tuple",dict:=dd,data:= .seq items n,slots:=sl}/\s.heap.get? b=some {cls:= .type "tuple",dict:=dd2,data:= .seq items2 n2,slots:=sl2}/\
   bD A.in1 s items.toList items2.toList q/\R (.ok (.ret (.bool (lexV (decide (items.size < items2.size)) q)))) s):=
 .of_wp fun prog w A R s h=>by
  refine hZq fun q_ e_=>?_;obtain⟨hp,g,d,tk,os⟩:=s;obtain⟨hl,hb,hx,h⟩:=h;subst e_;have m:=AutoSeq1.sub_tuple_tuple
  wp_walk using wpAny_loadPart' hl,wpAny_loadPart' hb,wpAny_forIn_list _ (fun rest b s'=>b.1=none/\s'=⟨hp,g,d,tk,os⟩/\∃(vs ws:List Value) (c:List (Bool×Bool)),rest=vs.zip ws/\
   bD A.in1 ⟨hp,g,d,tk,os⟩ vs ws c/\R (.ok (.ret (.bool (lexV (decide (items.size < items2.size)) c)))) ⟨hp,g,d,tk,os⟩) _
  case turn=>
   rintro⟨y,x⟩ rest b s' ⟨f,rfl,vs,ws,c,hz,a,i⟩
   match vs,ws,c,hz,a,i with
   | [],_,_,hz,_,_=>rw[List.zip_nil_left]at hz;cases hz
   |_::_,[],_,hz,_,_=>rw[List.zip_nil_right]at hz;cases hz
   |v::vs,w'::ws,[],_,a,_=>exact a.elim
   |v::vs,w'::ws,(e,lo)::c,hz,a,i=>
    rw[Ae]at hz;injection hz with hyx hrest;injection hyx with hy hx';subst hy hx';obtain⟨he,j,a⟩:=a;refine wpAny_bind (he prog w _ _ ?_)
    cases e with
    |true=>
     wp_walk
     exact⟨rfl,rfl,J2 _ _ _ hrest (a rfl) i⟩
    |false=>
     have k:=j rfl prog w
     wp_walk using k
     exact Y3 _ rfl i
  case fin=>
   rintro⟨b1,b2⟩ s' ⟨f,rfl,vs,ws,c,hz,a,i⟩;simp only at f;subst f
   have hq:c= []:=by
    match vs,ws,c,hz,a with
    | [],_,_,_,a=>unfold bD at a;exact a
    |_::_,[],_,_,a=>unfold bD at a;exact a
    |_::_,_::_,_,hz,_=>rw[Ae]at hz;cases hz
   subst hq
   wp_walk
   exact Y3 _ rfl (by simpa [Builtin.Tuple.tupleCompareSizes,lexV]using i)
  case h=>
   exact⟨rfl,rfl,J2 items.toList items2.toList q rfl hx h⟩
theorem gK{b:Addr}(hl:s.heap.IsTuple l items)(hb:s.heap.IsTuple b items2)(hu:A.units < cLine)(hx:bD A.in1 s items.toList items2.toList q):LtAt A s (.ref l) (.ref b) (lexV (decide (items.size < items2.size)) q):=by
 intro prog w E Q h;obtain⟨⟨cls,dd,data,sl⟩,ho,hc,n,hd⟩:=id hl;obtain⟨⟨i,g,e,f⟩,d,a,n2,c⟩:=id hb;simp only at hc hd a c;subst hc hd a c
 exact richCompare_meets_room (op:= .Lt) (Y3 _ ho rfl) (Y3 _ d rfl) PySem.F.slot_tuple_lt PySem.F.entry_tuple_lt (PySem.F.args_tuple_lt_2 _ _) (j6 l b items items2 n n2 dd g sl f q)
  ⟨ho,d,hx,show Value.bool (lexV (decide (items.size < items2.size)) q)≠Value.notImplemented/\Q (.bool (lexV (decide (items.size < items2.size)) q)) s from⟨(fun x=>nomatch x),h⟩⟩ hu
end Tre
namespace Tre
open PySem L2
inductive Co where
 |non
 |num (i:Int)
 |str (l:List Nat)
 |tup (cs:List Co)
 |ls
noncomputable def Co.kind:Co->Nat
 | .non=>0
 | .num _=>1
 | .str _=>2
 | .tup _=>3
 | .ls=>4
mutual
noncomputable def code:Tr->Co
 | .non=> .non
 | .bl b=> .num (if b then 1 else 0)
 | .int i=> .num i
 | .str x=> .str x.cps.toList
 | .tup ts=> .tup (codes ts)
 | .ls=> .ls
noncomputable def codes:List Tr->List Co
 | []=> []
 |t::ts=>code t::codes ts
end
theorem jd(x y:Str):((x==y)=true)↔x.cps.toList=y.cps.toList:=by
 rw[beq_iff_eq];constructor
 . rintro rfl;rfl
 . intro h;cases x;cases y;simp only[Str.mk.injEq];exact Array.toList_inj.mp h
mutual
theorem cW:∀(t u:Tr),(eqT t u=true)↔code t=code u
 | .non,u=>by cases u<;>simp[eqT,code]
 | .bl a,u=>by cases u<;>simp[eqT,code];cases a<;>rename_i b<;>cases b<;>simp
 | .int i,u=>by cases u<;>simp[eqT,code]
 | .str x, .str y=>by simp only[eqT,code,Co.str.injEq];exact jd x y
 | .str x, .non=>by simp[eqT,code]
 | .str x, .bl _=>by simp[eqT,code]
 | .str x, .int _=>by simp[eqT,code]
 | .str x, .tup _=>by simp[eqT,code]
 | .str x, .ls=>by simp[eqT,code]
 | .ls,u=>by cases u<;>simp[eqT,code]
 | .tup ts, .tup us=>by simp only[eqT,code,Co.tup.injEq];exact eqTs_code ts us
 | .tup ts, .non=>by simp[eqT,code]
 | .tup ts, .bl _=>by simp[eqT,code]
 | .tup ts, .int _=>by simp[eqT,code]
 | .tup ts, .str _=>by simp[eqT,code]
 | .tup ts, .ls=>by simp[eqT,code]
theorem eqTs_code:∀(ts us:List Tr),(eqTs ts us=true)↔codes ts=codes us
 | [],[]=>by simp[eqTs,codes]
 | [],u::us=>by simp[eqTs,codes]
 |t::ts,[]=>by simp[eqTs,codes]
 |t::ts,u::us=>by
  simp only[eqTs,codes,AE,Av];rw[cW t u,eqTs_code ts us]
end
mutual
def LtC:Co->Co->Prop
 | .num i, .num j=>i < j
 | .str l, .str m=>l < m
 | .tup cs, .tup ds=>LtCs cs ds
 |c,d=>c.kind < d.kind
def LtCs:List Co->List Co->Prop
 | [],[]=>False
 | [],_::_=>True
 |_::_,[]=>False
 |c::cs,d::ds=>LtC c d\/(c=d/\LtCs cs ds)
end
variable{d:Co}{a t u:Tr}
theorem kD{c:Co}(h:LtC c d):c.kind<=d.kind:=by
 cases c<;>cases d<;>simp[LtC,Co.kind]at h ⊢
theorem kA{c:Co}(h:c.kind < d.kind):LtC c d:=by
 cases c<;>cases d<;>simp[LtC,Co.kind]at h ⊢
mutual
theorem jx:∀c:Co,¬LtC c c
 | .non=>by simp[LtC,Co.kind]
 | .num _=>by simp[LtC]
 | .str l=>by simp only[LtC];exact List.lt_irrefl l
 | .tup cs=>by simp only[LtC];exact ltCs_irr cs
 | .ls=>by simp[LtC,Co.kind]
theorem ltCs_irr:∀cs:List Co,¬LtCs cs cs
 | []=>by simp[LtCs]
 |c::cs=>by
  simp only[LtCs,not_or];exact⟨jx c,fun h=>ltCs_irr cs h.2⟩
end
mutual
theorem jw:∀c d:Co,LtC c d\/c=d\/LtC d c
 | .num i, .num j=>by simp only[LtC,Co.num.injEq];omega
 | .str l, .str m=>by
  simp only[LtC,Co.str.injEq];by_cases h1:l < m
  . exact .inl h1
  . by_cases h2:m < l
    . exact .inr (.inr h2)
    . exact .inr (.inl (List.le_antisymm (List.not_lt.mp h2) (List.not_lt.mp h1)))
 | .tup cs, .tup ds=>by simp only[LtC,Co.tup.injEq];exact ltCs_tri cs ds
 | .non,d=>by cases d<;>simp[LtC,Co.kind]
 | .ls,d=>by cases d<;>simp[LtC,Co.kind]
 | .num i, .non=>by simp[LtC,Co.kind]
 | .num i, .str _=>by simp[LtC,Co.kind]
 | .num i, .tup _=>by simp[LtC,Co.kind]
 | .num i, .ls=>by simp[LtC,Co.kind]
 | .str i, .non=>by simp[LtC,Co.kind]
 | .str i, .num _=>by simp[LtC,Co.kind]
 | .str i, .tup _=>by simp[LtC,Co.kind]
 | .str i, .ls=>by simp[LtC,Co.kind]
 | .tup i, .non=>by simp[LtC,Co.kind]
 | .tup i, .num _=>by simp[LtC,Co.kind]
 | .tup i, .str _=>by simp[LtC,Co.kind]
 | .tup i, .ls=>by simp[LtC,Co.kind]
theorem ltCs_tri:∀cs ds:List Co,LtCs cs ds\/cs=ds\/LtCs ds cs
 | [],[]=>by simp
 | [],d::ds=>by simp[LtCs]
 |c::cs,[]=>by simp[LtCs]
 |c::cs,d::ds=>by
  simp only[LtCs,Av];rcases jw c d with h|h|h
  . exact .inl (.inl h)
  . rcases ltCs_tri cs ds with g|g|g
    . exact .inl (.inr ⟨h,g⟩)
    . exact .inr (.inl ⟨h,g⟩)
    . exact .inr (.inr (.inr ⟨h.symm,g⟩))
  . exact .inr (.inr (.inl h))
end
theorem aF{a b c:Co}(h1:LtC a b)(h2:LtC b c)(hk:a.kind < b.kind\/b.kind < c.kind):LtC a c:=by
 have k1:=kD h1;have k2:=kD h2;exact kA (by omega)
mutual
theorem fE:∀ {a b c:Co},LtC a b->LtC b c->LtC a c
 | .num i, .num j, .num k,h1,h2=>by simp only[LtC]at *;omega
 | .str i, .str j, .str k,h1,h2=>by simp only[LtC]at *;exact List.lt_trans h1 h2
 | .tup i, .tup j, .tup k,h1,h2=>by simp only[LtC]at *;exact ltCs_trans h1 h2
 | .num _, .num _, .str _,h1,h2=>aF h1 h2 (by simp[LtC,Co.kind]at h1 h2 ⊢)
 | .num _, .num _, .tup _,h1,h2=>aF h1 h2 (by simp[LtC,Co.kind]at h1 h2 ⊢)
 | .num _, .num _, .non,h1,h2=>aF h1 h2 (by simp[LtC,Co.kind]at h1 h2 ⊢)
 | .num _, .num _, .ls,h1,h2=>aF h1 h2 (by simp[LtC,Co.kind]at h1 h2 ⊢)
 | .num _, .str _,_,h1,h2=>aF h1 h2 (by simp[LtC,Co.kind]at h1 h2 ⊢)
 | .num _, .tup _,_,h1,h2=>aF h1 h2 (by simp[LtC,Co.kind]at h1 h2 ⊢)
 | .num _, .non,_,h1,h2=>aF h1 h2 (by simp[LtC,Co.kind]at h1 h2 ⊢)
 | .num _, .ls,_,h1,h2=>aF h1 h2 (by simp[LtC,Co.kind]at h1 h2 ⊢)
 | .str _, .str _, .num _,h1,h2=>aF h1 h2 (by simp[LtC,Co.kind]at h1 h2 ⊢)
 | .str _, .str _, .tup _,h1,h2=>aF h1 h2 (by simp[LtC,Co.kind]at h1 h2 ⊢)
 | .str _, .str _, .non,h1,h2=>aF h1 h2 (by simp[LtC,Co.kind]at h1 h2 ⊢)
 | .str _, .str _, .ls,h1,h2=>aF h1 h2 (by simp[LtC,Co.kind]at h1 h2 ⊢)
 | .str _, .num _,_,h1,h2=>aF h1 h2 (by simp[LtC,Co.kind]at h1 h2 ⊢)
 | .str _, .tup _,_,h1,h2=>aF h1 h2 (by simp[LtC,Co.kind]at h1 h2 ⊢)
 | .str _, .non,_,h1,h2=>aF h1 h2 (by simp[LtC,Co.kind]at h1 h2 ⊢)
 | .str _, .ls,_,h1,h2=>aF h1 h2 (by simp[LtC,Co.kind]at h1 h2 ⊢)
 | .tup _, .tup _, .num _,h1,h2=>aF h1 h2 (by simp[LtC,Co.kind]at h1 h2 ⊢)
 | .tup _, .tup _, .str _,h1,h2=>aF h1 h2 (by simp[LtC,Co.kind]at h1 h2 ⊢)
 | .tup _, .tup _, .non,h1,h2=>aF h1 h2 (by simp[LtC,Co.kind]at h1 h2 ⊢)
 | .tup _, .tup _, .ls,h1,h2=>aF h1 h2 (by simp[LtC,Co.kind]at h1 h2 ⊢)
 | .tup _, .num _,_,h1,h2=>aF h1 h2 (by simp[LtC,Co.kind]at h1 h2 ⊢)
 | .tup _, .str _,_,h1,h2=>aF h1 h2 (by simp[LtC,Co.kind]at h1 h2 ⊢)
 | .tup _, .non,_,h1,h2=>aF h1 h2 (by simp[LtC,Co.kind]at h1 h2 ⊢)
 | .tup _, .ls,_,h1,h2=>aF h1 h2 (by simp[LtC,Co.kind]at h1 h2 ⊢)
 | .non,b,_,h1,h2=>aF h1 h2 (by cases b<;>simp[LtC,Co.kind]at h1 h2 ⊢)
 | .ls,b,_,h1,h2=>aF h1 h2 (by cases b<;>simp[LtC,Co.kind]at h1 h2 ⊢)
theorem ltCs_trans:∀ {a b c:List Co},LtCs a b->LtCs b c->LtCs a c
 | [],[],_,h1,_=>by simp[LtCs]at h1
 | [],_::_,[],_,h2=>by simp[LtCs]at h2
 | [],_::_,_::_,_,_=>by simp[LtCs]
 |_::_,[],_,h1,_=>by simp[LtCs]at h1
 |_::_,_::_,[],_,h2=>by simp[LtCs]at h2
 |x::a,y::b,z::c,h1,h2=>by
  simp only[LtCs]at*;rcases h1 with h1|⟨e1,h1⟩
  . rcases h2 with h2|⟨d,h2⟩
    . exact .inl (fE h1 h2)
    . exact .inl (d▸h1)
  . rcases h2 with h2|⟨d,h2⟩
    . exact .inl (e1▸h2)
    . exact .inr ⟨e1.trans d,ltCs_trans h1 h2⟩
end
open Classical in
noncomputable def ltT(t u:Tr):Bool:=decide (LtC (code t) (code u))
open Classical in
theorem ltT_iff:(ltT t u=true)↔LtC (code t) (code u):=by
 unfold ltT;exact decide_eq_true_iff
theorem i3(h:ltT t u=true):ltT u t=false:=by
 cases e:ltT u t with
 |false=>rfl
 |true=>exact absurd (fE (ltT_iff.mp h) (ltT_iff.mp e)) (jx _)
theorem xa{b c:Tr}(h1:ltT b a=false)(h2:ltT c b=false):ltT c a=false:=by
 cases e:ltT c a with
 |false=>rfl
 |true=>
  have n1:¬LtC (code b) (code a):=fun z=>by rw[ltT_iff.mpr z]at h1;cases h1
  have n2:¬LtC (code c) (code b):=fun z=>by rw[ltT_iff.mpr z]at h2;cases h2
  have l:=ltT_iff.mp e;rcases jw (code a) (code b)with q|q|q
  . exact absurd (fE l q) n2
  . rw[q]at l;exact absurd l n2
  . exact absurd q n1
theorem xc{b:Tr}(h1:ltT a b=false)(h2:ltT b a=false):eqT a b=true:=by
 rw[cW];rcases jw (code a) (code b)with q|q|q
 . rw[ltT_iff.mpr q]at h1;cases h1
 . exact q
 . rw[ltT_iff.mpr q]at h2;cases h2
open PySem.Spec PyProof.Rows
mutual
def Cm:Tr->Tr->Prop
 | .bl _, .bl _=>True
 | .int _, .int _=>True
 | .str _, .str _=>True
 | .tup ts, .tup us=>Cms ts us
 |_,_=>False
def Cms:List Tr->List Tr->Prop
 |t::ts,u::us=>(eqT t u=true/\Cms ts us)\/(eqT t u=false/\Cm t u)
 | [],_=>True
 |_::_,[]=>True
end
noncomputable def qs:List Tr->List Tr->List (Bool×Bool)
 |t::ts,u::us=>(eqT t u,ltT t u)::qs ts us
 | [],_=> []
 |_::_,[]=> []
theorem df:∀(ts us:List Tr),(lexV (decide (ts.length < us.length)) (qs ts us)=true)↔LtCs (codes ts) (codes us)
 | [],[]=>by simp[qs,lexV,codes,LtCs]
 | [],u::us=>by simp[qs,lexV,codes,LtCs]
 |t::ts,[]=>by simp[qs,lexV,codes,LtCs]
 |t::ts,u::us=>by
  have a:=df ts us;have e:decide ((t::ts).length < (u::us).length)=decide (ts.length < us.length):=by simp
  rw[e];simp only[qs,lexV,codes,LtCs];by_cases h:eqT t u=true
  . rw[if_pos h,a];have hc:=(cW t u).mp h;rw[hc];constructor
    . intro z;exact .inr ⟨rfl,z⟩
    . rintro(z|⟨_,z⟩)
      . exact absurd z (jx _)
      . exact z
  . rw[if_neg h];have hc:¬code t=code u:=fun z=>h ((cW t u).mpr z);constructor
    . intro z;exact .inl (ltT_iff.mp z)
    . rintro(z|⟨z,_⟩)
      . exact ltT_iff.mpr z
      . exact absurd z hc
theorem aU{a b:Bool}(h:(a=true)↔(b=true)):a=b:=Az.mpr h
theorem eF(I:Inv X pins σ H s){n:Nat}{A:Around}(hu:A.units+n+1 < cLine)(ih:∀ {t u:Tr} {v w:V} {a b:Value},t.depth<=n->(t.pure\/u.pure)->Cm t u->TrAt H v t->TrAt H w u->RelV v a->RelV w b->LtAt A s a b (ltT t u)):
 ∀ {ts us:List Tr} {vs ws:List V} {as bs:List Value},Trs.depth ts<=n->(Trs.pure ts\/Trs.pure us)->Cms ts us->TrsAt H vs ts->TrsAt H ws us->Vals vs as->Vals ws bs->bD A s as bs (qs ts us)
 | [],us,vs,ws,as,bs,hd,hp,hc,h1,h2,r1,r2=>by
  unfold TrsAt at h1;subst h1;cases r1;cases us<;>simp[bD,qs]
 |t::ts,[],vs,ws,as,bs,hd,hp,hc,h1,h2,r1,r2=>by
  unfold TrsAt at h2;subst h2;cases r2;obtain⟨v,r,rfl,_,_⟩:=h1.inv;cases r1;simp[bD,qs]
 |t::ts,u::us,vs,ws,as,bs,hd,hp,hc,h1,h2,r1,r2=>by
  obtain⟨v,r,rfl,h,g2⟩:=h1.inv;obtain⟨v',r',rfl,i,k⟩:=h2.inv;unfold Trs.depth at hd
  have c:t.pure\/u.pure:=by
   rcases hp with hp|hp<;>unfold Trs.pure at hp
   . exact .inl hp.1
   . exact .inr hp.1
  have d:Trs.pure ts\/Trs.pure us:=by
   rcases hp with hp|hp<;>unfold Trs.pure at hp
   . exact .inl hp.2
   . exact .inr hp.2
  cases r1 with
  |cons g l=>
   cases r2 with
   |cons f j=>
    simp only[bD,qs];refine⟨ga I n (by omega) c h i g f hu,fun e=>?_,fun e=>?_⟩
    . unfold Cms at hc;rcases hc with⟨e',_⟩|⟨_,hc⟩
      . rw[e]at e';cases e'
      . exact ih (by omega) c hc h i g f
    . unfold Cms at hc;rcases hc with⟨_,hc⟩|⟨e',_⟩
      . exact eF I hu ih (by omega) d hc g2 k l j
      . rw[e]at e';cases e'
theorem nF{w:V}{a b:Value}(hd:∀ts,t≠ .tup ts)(hc:Cm t u)(h1:TrAt H v t)(h2:TrAt H w u)(r1:RelV v a)(r2:RelV w b):LtAt A s a b (ltT t u):=by
 cases t<;>cases u<;>unfold Cm at hc<;>first|exact hc.elim|skip
 . rename_i x y;unfold TrAt at h1 h2;subst h1 h2;cases (show a=Value.bool x from r1);cases (show b=Value.bool y from r2);intro prog w' E Q h;refine lt_bool ?_
   have e:decide (b2i x < b2i y)=ltT (.bl x) (.bl y):=by
    refine aU ?_;rw[ltT_iff,decide_eq_true_iff];cases x<;>cases y<;>simp[code,LtC,b2i]
   rw[e];exact h
 . rename_i x y;unfold TrAt at h1 h2;subst h1 h2;obtain⟨t1,rfl⟩:=r1;obtain⟨t2,rfl⟩:=r2;intro prog w' E Q h;refine lt_int ?_
   have e:decide (x < y)=ltT (.int x) (.int y):=by
    refine aU ?_;rw[ltT_iff,decide_eq_true_iff];simp[code,LtC]
   rw[e];exact h
 . rename_i x y;unfold TrAt at h1 h2;subst h1 h2;obtain⟨t1,rfl⟩:=r1;obtain⟨t2,rfl⟩:=r2;intro prog w' E Q h;refine lt_str ?_
   have e:decide (x.cps.toList < y.cps.toList)=ltT (.str x) (.str y):=by
    refine aU ?_;rw[ltT_iff,decide_eq_true_iff];simp[code,LtC]
   rw[e];exact h
 . exact(hd _ rfl).elim
theorem dG(I:Inv X pins σ H s):∀(n:Nat) {A:Around} {t u:Tr} {v w:V} {a b:Value},t.depth<=n->(t.pure\/u.pure)->Cm t u->TrAt H v t->TrAt H w u->RelV v a->RelV w b->A.units+n+1 < cLine->LtAt A s a b (ltT t u):=by
 intro n
 induction n with
 |zero=>
  intro A t u v w a b hd hp hc h1 h2 r1 r2 hu;refine nF (fun ts e=>?_) hc h1 h2 r1 r2;subst e;simp[Tr.depth]at hd
 |succ n y=>
  intro A t u v w a b hd hp hc h1 h2 r1 r2 hu
  cases t with
  |tup ts=>
   cases u<;>first|(unfold Cm at hc;exact hc.elim)|skip
   rename_i us;unfold Cm at hc;unfold TrAt at h1 h2;obtain⟨r0,j,rfl,m,k0⟩:=h1;obtain⟨r,vs,rfl,o,k1⟩:=h2;cases r1;cases r2;obtain⟨as,h,i,_⟩:=I.tuple (SqT.of m);obtain⟨bs,g,k,_⟩:=I.tuple (SqT.of o);unfold Tr.depth at hd
   have f:Trs.pure ts\/Trs.pure us:=by
    rcases hp with hp|hp<;>unfold Tr.pure at hp
    . exact .inl hp
    . exact .inr hp
   have c:A.in1.units+n+1 < cLine:=by show A.units+1+n+1 < cLine;omega
   have hx:=eF (A:=A.in1) I c (fun d pp cc x q b1 b2=>y d pp cc x q b1 b2 c) (by omega) f hc k0 k1 h g
   have:=gK (A:=A) (show s.heap.IsTuple r0 as.toArray from i) (show s.heap.IsTuple r bs.toArray from k) (by omega) (by simpa using hx)
   have e:lexV (decide (as.toArray.size < bs.toArray.size)) (qs ts us)=ltT (.tup ts) (.tup us):=by
    have p:=k0.len;have l1:=k1.len;have l2:=h.length;have z:=g.length
    have l:decide (as.toArray.size < bs.toArray.size)=decide (ts.length < us.length):=by
     rw[yX,yX,<-l2,<-z,p,l1]
    rw[l];refine aU ?_;rw[df,ltT_iff];simp[code,LtC]
   rw[<-e];exact this
  |_=>exact nF (fun ts e=>by cases e) hc h1 h2 r1 r2
end Tre
namespace Srt
open PySem PySem.W PySem.Calls PyProof.Rows
theorem fw{α:Type}(d:α):∀(vs:List α),(List.range vs.length).map (fun i=>vs.getD i d)=vs
 | []=>rfl
 |v::vs=>by
  rw[zg,List.range_succ_eq_map,zh,Aj];have:=fw d vs;simp only[Function.comp_def];show v::List.map (fun i=>vs.getD i d) (List.range vs.length)=v::vs;rw[this]
theorem mK{α:Type}:∀(vs:List α),List.map (fun x=>x.snd) (vs.zip vs)=vs
 | []=>rfl
 |v::vs=>by
  rw[Ae,zh,mK vs]
def Stay(s:Shared)(a:Addr)(h':Heap):Prop:=∀b o,b≠a->s.heap.get? b=some o->h'.get? b=some o
theorem iC{lt:Nat->Nat->Bool}{κ:SortKind}{vs:List Value}{P:PySem.Fin->Shared->Prop}(O:Ord lt)(ho:s.heap.get? a=some (seqObj "list" vs.toArray n))(h64:vs.length < 64)(hkind:2<=vs.length->∀h',Stay s a h'->∀R:SortKind->Shared->Prop,R κ {s with heap:=h'}->wpAny (model prog w) A (keyKind' vs.toArray) R E {s with heap:=h'})(hask:∀h',Stay s a h'->∀i j (R:Bool->Shared->Prop),i < vs.length->j < vs.length->R (lt i j) {s with heap:=h'}->kas_ask prog w A κ vs i j R {s with heap:=h'})(h:∀p:Array Nat,Pm vs.length p->Up lt p vs.length->P (.done (.ret .none)) {s with heap:=sortedHeap s.heap a vs (List.toArray (p.toList.map fun i=>vs.getD i Value.none))}):
 wpAny (model prog w) A (Builtin.«list.sort» ⟨[.ref a],[]⟩) P E s:=by
 have ha:a < s.heap.objs.size:=Heap.lt_size ho;rw[list_sort_plain];refine wpAny_bind (listItems_at ho rfl ?_);refine wpAny_bind (listUpdate_at ho rfl ?_ (by rw[yX,sizeLine_eq];omega) (zc _))
 obtain⟨e1,g⟩:∃e1,(s.heap.update a (Obj.mapSeq fun _=>(#[]:Array Value))).get? a=some (seqObj "list" #[] e1):=⟨_,get?_update_seq ho fun _=> #[]⟩;refine wpAny_bind (seqEpoch_at g rfl ?_);refine wpAny_bind (wpAny_newTuple ?_ (by show vs.length<=_;rw[sizeLine_eq];omega))
 refine wpAny_bind (wpAny_newList ?_ (zc _));refine wpAny_holding ?_;have s1:=Heap.SameBut.update s.heap a (Obj.mapSeq fun _=>(#[]:Array Value))
 have st:Stay s a (((s.heap.update a (Obj.mapSeq fun _=>(#[]:Array Value))).push (seqObj "tuple" vs.toArray 0)).push (seqObj "list" #[] 0)):=fun b o hb e=>
  Heap.get?_push_of_some _ (Heap.get?_push_of_some _ ((s1.2 b hb).trans e))
 have d:(((s.heap.update a (Obj.mapSeq fun _=>(#[]:Array Value))).push (seqObj "tuple" vs.toArray 0)).push (seqObj "list" #[] 0)).get? a=some (seqObj "list" #[] e1):=Heap.get?_push_of_some _ (Heap.get?_push_of_some _ g);show wpAny (model prog w) A _ P E {s with heap:=((s.heap.update a (Obj.mapSeq fun _=>(#[]:Array Value))).push (seqObj "tuple" vs.toArray 0)).push (seqObj "list" #[] 0)};dsimp only
 have out:∀p:Array Nat,Pm vs.length p->(List.toArray (p.toList.map fun i=>vs.getD i Value.none)).size<=sizeLine:=fun p hp=>by
  rw[yX,yR,zX,hp.size,sizeLine_eq];omega
 by_cases h2:vs.toArray.size < 2
 . rw[if_pos h2,if_pos h2];refine wpAny_bind (wpAny_pure ?_);rw[StateT.run_pure];refine wpAny_bind (wpAny_pure ?_);dsimp only;refine wpAny_bind (seqEpoch_at d rfl ?_)
   have h0:Pm vs.length (List.toArray (List.range vs.length)):=by
    unfold Pm;simp
   have u:(arrOf (SortSt.mk' general' (vs.toArray.zip vs.toArray) #[] 7 none)).map (·.2)=List.toArray ((List.toArray (List.range vs.length)).toList.map fun i=>vs.getD i Value.none):=by
    rw[An,fw];show(vs.toArray.zip vs.toArray).map (·.2)=vs.toArray;apply Array.toList_inj.mp;simp;exact mK vs
   rw[u];refine wpAny_bind (listUpdate_at d rfl ?_ (zc _) (Nat.le_succ_of_le (out _ h0)));simp only[bne_self_eq_false,Ak,if_false];refine wpAny_pure (h _ h0 fun i j t m=>?_);have hv:vs.length < 2:=by simpa using h2
   have:i=j:=by omega
   subst this;exact O.refl _
 . rw[if_neg h2,if_neg h2]
   have f:2<=vs.length:=by
    rw[yX]at h2;omega
   refine wpAny_bind (hkind f _ st _ ?_)
   have run:(kas_sort vs.length).kasWp (kas_ask prog w A κ vs) (fun p s'=>(Pm vs.length p/\Up lt p vs.length)/\s'= {s with heap:=((s.heap.update a (Obj.mapSeq fun _=>(#[]:Array Value))).push (seqObj "tuple" vs.toArray 0)).push (seqObj "list" #[] 0)})
    {s with heap:=((s.heap.update a (Obj.mapSeq fun _=>(#[]:Array Value))).push (seqObj "tuple" vs.toArray 0)).push (seqObj "list" #[] 0)}:=
    pR (lt:=lt) (N:=vs.length) (G:=fun s'=>s'= {s with heap:=((s.heap.update a (Obj.mapSeq fun _=>(#[]:Array Value))).push (seqObj "tuple" vs.toArray 0)).push (seqObj "list" #[] 0)})
     (fun i j R s' hi m l r=>by subst l;exact hask _ st i j R hi m (r _ rfl)) (fun p s' hp l=>⟨hp,l⟩) (vR O (by omega)) rfl
   refine wpAny_bind (wpAny_mono (kat_run (ks:=vs) (Q:=fun c s'=>∃p:Array Nat,(Pm vs.length p/\Up lt p vs.length)/\arrOf c=p.map (kas_item (vs.toArray.zip vs.toArray))/\failedOf c=none/\s'= {s with heap:=((s.heap.update a (Obj.mapSeq fun _=>(#[]:Array Value))).push (seqObj "tuple" vs.toArray 0)).push (seqObj "list" #[] 0)})
    rfl f h64 (fun p c s' z x y q=>U8 p q.1 x y q.2) run) ?_ fun _ _ e=>e)
   rintro⟨⟨⟩,c⟩ s' ⟨p,hp,k,v,rfl⟩;dsimp only;refine wpAny_bind (seqEpoch_at d rfl ?_);rw[kat_snds rfl k];refine wpAny_bind (listUpdate_at d rfl ?_ (zc _) (Nat.le_succ_of_le (out p hp.1)));rw[v];simp only[bne_self_eq_false,Ak,if_false];exact wpAny_pure (h p hp.1 hp.2)
end Srt
namespace Tre
open PySem PySem.Spec PyProof.Rows L2 Srt
theorem iR{prog:Program}{w:World}{A:Around}{s:Shared}{fin:Bool}{Q:Bool->Shared->Prop}:∀ {as bs:List Value} {q:List (Bool×Bool)} {i:Nat},bD A s as bs q->Q (lexV fin q) s->PySem.W.KatLex prog w A false fin Q (as.zip bs) i s
 | [],_,q,i,h,hq=>by
  unfold bD at h;subst h;rw[List.zip_nil_left];exact PySem.W.kat_nil hq
 |_::_,[],q,i,h,hq=>by
  unfold bD at h;subst h;rw[List.zip_nil_right];exact PySem.W.kat_nil hq
 |a::as,b::bs,[],i,h,hq=>h.elim
 |a::as,b::bs,(e,l)::q,i,h,hq=>by
  obtain⟨h1,h2,h3⟩:=h;rw[Ae];refine PySem.W.kat_cons (h1 prog w _ _ ?_)
  cases e with
  |true=>exact PySem.W.kat_yes (iR (h3 rfl) hq)
  |false=>
   refine PySem.W.kat_no ?_;show wpAny _ _ (oneLt' false a b) _ _ _;exact PySem.W.kat_one a b (h2 rfl prog w _ _ hq)
def Hd(t:Tr):Prop:=∃fs r,t= .tup (.tup fs::r)
theorem TrsAt.map{H:Hp}{vs:List V}{ts:List Tr}(h:TrsAt H vs ts):∀ {is:List Nat},(∀i∈is,i < ts.length)->TrsAt H (is.map fun i=>vs.getD i .non) (is.map fun i=>ts.getD i .non)
 | [],_=> .nil
 |i::is,hi=>by
  have h0:i < ts.length:=hi i yT;have hl:=h.len;obtain⟨v,e1,b⟩:=h.get (i:=i) (t:=ts[i]) (yS h0);have a:vs.getD i .non=v:=by rw[z8,e1];rfl
  have c:ts.getD i .non=ts[i]:=by rw[z8,yS h0];rfl
  rw[zh,zh,a,c];exact .cons b (TrsAt.map h fun j m=>hi j (yU _ m))
theorem Vals.map{vs:List V}{as:List Value}(h:Vals vs as):∀ {is:List Nat},(∀i∈is,i < vs.length)->Vals (is.map fun i=>vs.getD i .non) (is.map fun i=>as.getD i Value.none)
 | [],_=> .nil
 |i::is,hi=>by
  have h0:i < vs.length:=hi i yT;obtain⟨u,e1,b⟩:=h.get (i:=i) (x:=vs[i]) (yS h0);have a:vs.getD i .non=vs[i]:=by rw[z8,yS h0];rfl
  have c:as.getD i Value.none=u:=by rw[z8,e1];rfl
  rw[zh,zh,a,c];exact .cons b (Vals.map h fun j m=>hi j (yU _ m))
theorem bX(I:Inv X pins σ H s)(h:H r=some (.tup vs)):∃(as:List Value) (o:Obj) (n:Nat),Vals vs as/\s.heap.get? r=some o/\o.cls= .type "tuple"/\o.data= .seq as.toArray n:=by
 obtain⟨as,q,p,_⟩:=I.tuple (SqT.of h);obtain⟨o,ho,hc,n,hd⟩:=(show s.heap.IsTuple r as.toArray from p);exact⟨as,o,n,q,ho,hc,hd⟩
theorem i5(I:Inv X pins σ H s):∀ {vs:List V} {ts:List Tr} {as:List Value},TrsAt H vs ts->Vals vs as->(∀t∈ts,Hd t)->∃fs,PySem.W.KatTups s.heap as fs/\fs.length=as.length/\∀v∈fs,∃(r:Addr) (o:Obj),v= .ref r/\s.heap.get? r=some o/\o.cls= .type "tuple"
 |vs,[],as,h,r,_=>by
  unfold TrsAt at h;subst h;cases r;exact Y8 ([]) PySem.W.KatTups.nil rfl (fun v m=>by cases m)
 |vs,t::ts,as,h,r,hh=>by
  obtain⟨v,x,rfl,h1,h2⟩:=h.inv
  cases r with
  |cons i j=>
   obtain⟨fs,k1,k2,k3⟩:=i5 I h2 j fun t m=>hh t (yU _ m);obtain⟨y,w,rfl⟩:=hh t yT;unfold TrAt at h1;obtain⟨r0,d,rfl,g,k⟩:=h1;cases i;obtain⟨f,fr,rfl,h3,z⟩:=k.inv;obtain⟨q,o,n,e,ho,hc,hd⟩:=bX I g
   cases e with
   |cons p u=>
    unfold TrAt at h3;obtain⟨r1,c,rfl,g2,_⟩:=h3;cases p;obtain⟨_,l,_,_,b,a,_⟩:=bX I g2;refine Y8 (.ref r1::fs) (PySem.W.KatTups.cons ho hc hd (by simp) k1) (by simp[k2]) (fun v m=>?_)
    rcases yY.mp m with rfl|m
    . exact Y5 r1 l rfl b a
    . exact k3 v m
def uo:List V->Hp->VK->Prop:=fun xs H Q=>∃(l:Addr) (vs:List V) (ts:List Tr),xs= [.ref l]/\H l=some (.lst vs)/\TrsAt H vs ts/\ts.length < 64/\(∀t∈ts,Hd t/\t.pure/\t.depth<=40)/\(∀t∈ts,∀u∈ts,Cm t u)/\
 ∀(D:Addr) (ws:List V) (us:List Tr),H D=none->us.Perm ts->TrsAt H ws us->(∀(i j:Nat) (t u:Tr),i<=j->us[i]?=some t->us[j]?=some u->ltT u t=false)->Q (.ref D) (upd H D (.lst ws))
end Tre
namespace Tre
open PySem L2
inductive So where
 |tm|fr|pr|ws|lt
abbrev s_(x:String):Tr:= .str (Str.ofString x)
inductive Ty:So->Tr->Prop
 |nm (x:Str):Ty .tm (.tup [s_ "name", .str x])
 |ap (x:Str) (ts:List Tr):ts.length<=3->(∀t∈ts,Ty .tm t)->Ty .tm (.tup [s_ "call", .str x, .tup ts])
 |fr (a b:Int):Ty .fr (.tup [.int a, .int b])
 |pr (t f:Tr):Ty .tm t->Ty .fr f->Ty .pr (.tup [t,f])
 |fl (x:Str):Ty .ws (.tup [s_ "flag", .str x])
 |mo (ps:List Tr) (f:Tr):(∀p∈ps,Ty .pr p)->Ty .fr f->Ty .ws (.tup [s_ "most", .tup ps,f])
 |li (t u:Tr):Ty .tm t->Ty .tm u->Ty .ws (.tup [s_ "like",t,u])
 |no (w:Tr):Ty .ws w->Ty .ws (.tup [s_ "not",w])
 |bo (l:List Tr):(∀w∈l,Ty .ws w)->Ty .ws (.tup [s_ "both", .tup l])
 |ei (l:List Tr):(∀w∈l,Ty .ws w)->Ty .ws (.tup [s_ "either", .tup l])
 |lt (w:Tr) (b:Bool):Ty .ws w->Ty .lt (.tup [w, .bl b])
variable{ts us:List Tr}{t u:Tr}
theorem aK(h1:eqT t u=false->Cm t u)(h2:Cms ts us):Cms (t::ts) (u::us):=by
 unfold Cms
 cases e:eqT t u with
 |true=>exact .inl ⟨rfl,h2⟩
 |false=>exact .inr ⟨rfl,h1 e⟩
theorem xM(h0:eqT t u=false)(h1:Cm t u):Cms (t::ts) (u::us):=by
 unfold Cms;exact .inr ⟨h0,h1⟩
theorem bq:Cms [] us:=by
 cases us<;>simp[Cms]
theorem ca(x y:Str):Cm (.str x) (.str y):=by simp[Cm]
theorem fK(x y:Int):Cm (.int x) (.int y):=by simp[Cm]
theorem yO(x y:Bool):Cm (.bl x) (.bl y):=by simp[Cm]
theorem dF(h:Cms ts us):Cm (.tup ts) (.tup us):=by
 unfold Cm;exact h
theorem gD(h:∀t∈ts,∀u∈us,Cm t u):Cms ts us:=by
 induction ts generalizing us with
 |nil=>exact bq
 |cons t ts c=>
  cases us with
  |nil=>simp[Cms]
  |cons u us=>exact aK (fun _=>h t yT u yT) (c fun a ma b d=>h a (yU _ ma) b (yU _ d))
theorem pO:∀(n:Nat) {k:So} {t u:Tr},t.depth<=n->Ty k t->Ty k u->Cm t u:=by
 intro n
 induction n with
 |zero=>
  intro k t u hd h1 h2;cases h1<;>simp[Tr.depth]at hd
 |succ n f=>
  intro k t u hd h1 h2
  have sub:∀ {ts:List Tr} {t:Tr},(Tr.tup ts).depth<=n+1->t∈ts->t.depth<=n:=fun h m=>by
   unfold Tr.depth at h;have:=bM m;omega
  have c:∀ {ts l:List Tr} {t:Tr},(Tr.tup ts).depth<=n+1->Tr.tup l∈ts->t∈l->t.depth<=n:=fun h m q=>by
   have h3:=sub h m;unfold Tr.depth at h3;have:=bM q;omega
  cases h1<;>cases h2<;>refine dF ?_
  all_goals first
   |exact xM (by decide +kernel) (ca _ _)
   |skip
  . exact aK (fun _=>ca _ _) (aK (fun _=>ca _ _) bq)
  . rename_i x ts _ h1 y us _ h2;exact aK (fun _=>ca _ _) (aK (fun _=>ca _ _) (aK (fun _=>dF (gD fun a ma b g=>f (c hd (by simp) ma) (h1 a ma) (h2 b g))) bq))
  . exact aK (fun _=>fK _ _) (aK (fun _=>fK _ _) bq)
  . rename_i t1 o e b1 t2 j d b2;exact aK (fun _=>f (sub hd (by simp)) e d) (aK (fun _=>f (sub hd (by simp)) b1 b2) bq)
  . exact aK (fun _=>ca _ _) (aK (fun _=>ca _ _) bq)
  . rename_i r o e b1 p2 j d b2;exact aK (fun _=>ca _ _) (aK (fun _=>dF (gD fun a ma b g=>f (c hd (by simp) ma) (e a ma) (d b g))) (aK (fun _=>f (sub hd (by simp)) b1 b2) bq))
  . rename_i t1 s e b1 t2 v d b2;exact aK (fun _=>ca _ _) (aK (fun _=>f (sub hd (by simp)) e d) (aK (fun _=>f (sub hd (by simp)) b1 b2) bq))
  . rename_i p e i d;exact aK (fun _=>ca _ _) (aK (fun _=>f (sub hd (by simp)) e d) bq)
  . rename_i l1 e l2 d;exact aK (fun _=>ca _ _) (aK (fun _=>dF (gD fun a ma b g=>f (c hd (by simp) ma) (e a ma) (d b g))) bq)
  . rename_i l1 e l2 d;exact aK (fun _=>ca _ _) (aK (fun _=>dF (gD fun a ma b g=>f (c hd (by simp) ma) (e a ma) (d b g))) bq)
  . rename_i p b1 e i b2 d;exact aK (fun _=>f (sub hd (by simp)) e d) (aK (fun _=>yO _ _) bq)
theorem eY(h:∀t∈ts,t.pure):Trs.pure ts:=by
 induction ts with
 |nil=>unfold Trs.pure;trivial
 |cons t ts a=>
  unfold Trs.pure;exact⟨h t yT,a fun u m=>h u (yU _ m)⟩
theorem g9{k:So}(h:Ty k t):t.pure:=by
 induction h with
 |nm x=>simp[Tr.pure,Trs.pure]
 |ap x ts _ _ c=>simp only[Tr.pure,Trs.pure];exact⟨trivial,trivial,eY c,trivial⟩
 |fr a b=>simp[Tr.pure,Trs.pure]
 |pr t f _ _ h1 h2=>simp only[Tr.pure,Trs.pure];exact⟨h1,h2,trivial⟩
 |fl x=>simp[Tr.pure,Trs.pure]
 |mo ps f _ _ h1 h2=>simp only[Tr.pure,Trs.pure];exact⟨trivial,eY h1,h2,trivial⟩
 |li t u _ _ h1 h2=>simp only[Tr.pure,Trs.pure];exact⟨trivial,h1,h2,trivial⟩
 |no w _ h1=>simp only[Tr.pure,Trs.pure];exact⟨trivial,h1,trivial⟩
 |bo l _ h1=>simp only[Tr.pure,Trs.pure];exact⟨trivial,eY h1,trivial⟩
 |ei l _ h1=>simp only[Tr.pure,Trs.pure];exact⟨trivial,eY h1,trivial⟩
 |lt w b _ h1=>simp only[Tr.pure,Trs.pure];exact⟨h1,trivial,trivial⟩
theorem vj(h:Ty .lt t\/Ty .pr t):Hd t:=by
 rcases h with h|h
 . cases h with
   |lt w b hw=>cases hw<;>exact(Y4 _ _ rfl)
 . cases h with
   |pr t f ht a=>cases ht<;>exact(Y4 _ _ rfl)
end Tre
namespace L2
open PySem PySem.Spec PyProof.Rows
theorem FnScope.of{P:List Str}{sc:Scope}(h1:sc.kind= .function:=by rfl)(h2:sc.isCoroutine=false:=by rfl)(h3:sc.isGenerator=false:=by rfl)(h4:N.Nodup:=by decide +kernel)(h5:N.take P.length=P:=by rfl)(h6:∀x∈P,sc.names.lookup x=some .local\/sc.names.lookup x=some .cell:=by decide +kernel)(h7:∀y∈sc.names,y.2≠ .free:=by decide +kernel):FnScope N P sc:=⟨h1,h2,h3,h4,h5,h6,h7⟩
theorem psA{pos:Pos}(i:Nat)(hN:X.N.Nodup)(he:PE X e te)(hi:X.N[i]?=some x:=by rfl)(hx:X.env.scope.names.lookup x=some .local:=by rfl)(hs:swapsWith e (some (.Name x pos')) pos.line X.env=pure false:=by rfl):PS X (.Assign [.Name x pos'] e pos) (tAsg te (aM i)):=
 rM hN hi (Or.inl hx) he hs (Or.inr hx)
theorem psR{pos:Pos}(i:Nat)(hN:X.N.Nodup)(he:PE X e te)(hi:X.N[i]?=some x:=by rfl)(hx:X.env.scope.names.lookup x=some .cell:=by rfl)(hf:X.fn x=true:=by rfl)(hs:swapsWith e (some (.Name x pos')) pos.line X.env=pure false:=by rfl):PS X (.Assign [.Name x pos'] e pos) (tAsg te (aM i)):=
 rM hN hi (Or.inr hx) he hs (Or.inl hf)
theorem pgA{pos:Pos}(i:Nat)(hN:X.N.Nodup)(hi:X.N[i]?=some x:=by rfl)(hx:X.env.scope.names.lookup x=some .local:=by rfl):PG X (.Name x pos) (aM i):=dL hN hi (Or.inl hx) (Or.inr hx)
theorem two:2<=sizeLine:=by decide
variable{ps:List Str}{n y z:Str}
theorem Fun.okb{st:Stmt}{k:Nat}(F:Fun K x qual st f fd)(S:FnScope N ps (af st))(hb:∀vs H Q E,sp vs H Q E->vs.length=ps.length/\∀(cdv:Value) (A:Around) (outer:List Env) (s:Shared),Room k (A.deeper (envOfC qual (af st) s.heap.objs.size f cdv))->
  ∃t,PSs (cxOf CX0 P w K mg base N qual (af st) f cdv A outer s H E).nox (aP st) t/\t {nx:=fun _ H'=>Q .non H',rt:=Q} (start N vs) H):FnOk P w K mg base CX0 (k+1) f fd ps sp:=
 F.ok S (fun vs H Q E h=>(hb vs H Q E h).1) fun cdv A outer s H vs Q E hr h=>(hb vs H Q E h).2 cdv A outer s hr
structure FH (K:PySem.W.Frag) (n:Str) (st:Stmt) (f:Addr) (fd:FuncData):Prop where
 ex:∃(oc:Value) (od:Option Addr) (kV doc pm:Value) (an:Option Addr) (cdv ct:Value) (osl:Array (Option Value)),
  fd=PySem.W.fnOf n n (bc st) (aP st) (af st) .none kV doc pm an cdv ct/\K.lookup f=some ⟨oc,od, .func fd,osl⟩/\PySem.W.codeIn K cdv n=true
 kp:PySem.W.keepIn K (.ref f)=true
 ns:PySem.W.nsIn K mainGlobals n=some (some (.ref f))
theorem FH.mk'{st:Stmt}{kV:Value}(a:PySem.W.nsIn K mainGlobals n=some (some (.ref f)))(l:K.lookup f=some ⟨oc,od, .func (PySem.W.fnOf n n (bc st) (aP st) (af st) .none kV doc pm an cdv ct),osl⟩)(c:PySem.W.codeIn K cdv n=true)(k:PySem.W.keepIn K (.ref f)=true):FH K n st f (PySem.W.fnOf n n (bc st) (aP st) (af st) .none kV doc pm an cdv ct):=⟨⟨_,_,_,_,_,_,_,_,_,rfl,l,c⟩,k,a⟩
theorem FH.fn{st:Stmt}(h:FH K n st f fd):Fun K n n st f fd:=⟨h.ex,h.kp⟩
theorem FH.b{st:Stmt}(h:FH K n st f fd)(hb:∀(kV doc pm:Value) (an:Option Addr) (cdv ct:Value) (us:List Value),us.length=ps.length->bindArgs (PySem.W.fnOf n n (bc st) (aP st) (af st) .none kV doc pm an cdv ct) ⟨us,[]⟩=pure (ps.zip us)):Binds K fd ps []:=h.fn.binds hb
theorem FH.b1{st:Stmt}(h:FH K n st f fd)(hb:∀(kV doc pm:Value) (an:Option Addr) (cdv ct a:Value),bindArgs (PySem.W.fnOf n n (bc st) (aP st) (af st) .none kV doc pm an cdv ct) ⟨[a],[]⟩=pure [(x,a)]:=by intros;rfl):Binds K fd [x] []:=h.b fun _ _ _ _ _ _ us hl=>match us,hl with| [_],_=>hb _ _ _ _ _ _ _
theorem FH.b2{st:Stmt}(h:FH K n st f fd)(hb:∀(kV doc pm:Value) (an:Option Addr) (cdv ct a b:Value),bindArgs (PySem.W.fnOf n n (bc st) (aP st) (af st) .none kV doc pm an cdv ct) ⟨[a,b],[]⟩=pure [(x,a),(y,b)]:=by intros;rfl):Binds K fd [x,y] []:=h.b fun _ _ _ _ _ _ us hl=>match us,hl with| [_,_],_=>hb _ _ _ _ _ _ _ _
theorem FH.b3{st:Stmt}(h:FH K n st f fd)(hb:∀(kV doc pm:Value) (an:Option Addr) (cdv ct a b c:Value),bindArgs (PySem.W.fnOf n n (bc st) (aP st) (af st) .none kV doc pm an cdv ct) ⟨[a,b,c],[]⟩=pure [(x,a),(y,b),(z,c)]:=by intros;rfl):Binds K fd [x,y,z] []:=h.b fun _ _ _ _ _ _ us hl=>match us,hl with| [_,_,_],_=>hb _ _ _ _ _ _ _ _ _
theorem FH.b5{st:Stmt}{u v:Str}(h:FH K n st f fd)(hb:∀(kV doc pm:Value) (an:Option Addr) (cdv ct a b c d e:Value),bindArgs (PySem.W.fnOf n n (bc st) (aP st) (af st) .none kV doc pm an cdv ct) ⟨[a,b,c,d,e],[]⟩=pure [(x,a),(y,b),(z,c),(u,d),(v,e)]:=by intros;rfl):Binds K fd [x,y,z,u,v] []:=h.b fun _ _ _ _ _ _ us hl=>match us,hl with| [_,_,_,_,_],_=>hb _ _ _ _ _ _ _ _ _ _ _
structure Cl (P:Program) (w:World) (K:PySem.W.Frag) (mg:Str->Option Value) (base:Heap) (n:Nat) (x:Str) (ps:List Str) (sp:Sp):Prop where
 ex:∃(f:Addr) (fd:FuncData),FnOk P w K mg base CX0 n f fd ps sp/\PySem.W.keepIn K (.ref f)=true/\Binds K fd ps []/\mg x=some (.ref f)
theorem FH.c{h0:Heap}{st:Stmt}{k:Nat}(h:FH K n st f fd)(X:K.In h0)(G:h0.Ns mainGlobals mg)(b:Binds K fd ps [])(g:FnOk P w K mg base CX0 k f fd ps sp):Cl P w K mg base k n ps sp:=⟨f,fd,g,h.kp,b,PySem.W.mg_of X G h.ns⟩
theorem ak{k:Nat}{t:TA}{pos:Pos}(C:Cl X.prog X.w X.K X.mg X.base k x ps sp)(hr:Room k X.A)(ha:PA X (e::es) t)(hg:Gl X x:=by rfl)(hdb:(x==("__debug__":Str))=false:=by decide)(he:starEach (e::es) X.env=(false,eval e X.env)::starEach es X.env:=by rfl)(hpl:(backTo pos (starEach es X.env)).any (·.1)=false:=by rfl):
 PE X (.Call (.Name x p) (e::es) [] pos) (mS sp [] E0 t):=by
 obtain⟨f,fd,g,kp,b,m⟩:=C.ex;exact fc g hr hg m kp b .nil iL ha hdb he hpl
end L2
namespace Dec
open PySem PySem.NumText
def cl(x:Str):List Nat:=x.cps.toList
theorem ik(x y:Str):cl (x++y)=cl x++cl y:=by
 show(x.cps++y.cps).toList=_;simp[cl]
theorem cl_inj{y:Str}(h:cl x=cl y):x=y:=by
 cases x;cases y;simp only[Str.mk.injEq];exact Array.toList_inj.mp h
theorem cO(x:Str):(cl x).length=x.length:=by simp[cl,Str.length]
end Dec
namespace Mth
theorem sY(a b:Int):Int.gcd b (a.fmod b)=Int.gcd a b:=by
 have e:a.fmod b=a - b*a.fdiv b:=Int.fmod_def a b;rw[e,Int.gcd_comm a b];have:a - b*a.fdiv b=a+b*(-(a.fdiv b)):=by rw[Int.mul_neg,Int.sub_eq_add_neg]
 rw[this];exact Int.gcd_add_mul_left_right ..
variable{a x:Int}
theorem uW{b:Int}(h:b≠0):(a.fmod b).natAbs < b.natAbs:=by
 by_cases hb:0 < b
 . have h1:=Int.fmod_nonneg_of_pos a hb;have h2:=Int.fmod_lt_of_pos a hb;omega
 . have h3:0 < -b:=by omega
   have e:a.fmod b= -((-a).fmod (-b)):=by
    rw[Int.neg_fmod_neg,Int.neg_neg]
   have h1:=Int.fmod_nonneg_of_pos (-a) h3;have h2:=Int.fmod_lt_of_pos (-a) h3;omega
noncomputable def dv(t b:Int):Int:=if b < 0 then -(Int.gcd t b:Int)else(Int.gcd t b:Int)
noncomputable def fx(t b:Int):Int:=t.fdiv (dv t b)
noncomputable def fy(t b:Int):Int:=b.fdiv (dv t b)
theorem tq{b:Int}(h:b≠0):dv t b≠0:=by
 have:0 < Int.gcd t b:=zB t h;unfold dv;split<;>omega
theorem xH{b:Int}:(dv t b).natAbs=Int.gcd t b:=by
 unfold dv;split<;>omega
theorem xG{b:Int}:dv t b∣t/\dv t b∣b:=by
 have h1:((Int.gcd t b:Nat):Int)∣t:=Int.gcd_dvd_left ..;have h2:((Int.gcd t b:Nat):Int)∣b:=Int.gcd_dvd_right ..;unfold dv;split
 . exact⟨Int.neg_dvd.mpr h1,Int.neg_dvd.mpr h2⟩
 . exact⟨h1,h2⟩
theorem parts{b:Int}(h:b≠0):t=dv t b*fx t b/\b=dv t b*fy t b:=by
 obtain⟨⟨x,hx⟩,⟨y,hy⟩⟩:=xG (t:=t) (b:=b);have n:=tq (t:=t) h
 have e1:fx t b=x:=by
  unfold fx;generalize dv t b=d at*;rw[hx];exact Int.mul_fdiv_cancel_left _ n
 have a:fy t b=y:=by
  unfold fy;generalize dv t b=d at*;rw[hy];exact Int.mul_fdiv_cancel_left _ n
 rw[e1,a];exact⟨hx,hy⟩
theorem xC{b:Int}(h:b≠0):1<=fy t b:=by
 obtain⟨_,e⟩:=parts (t:=t) h;have g:0 < Int.gcd t b:=zB t h;have n:=tq (t:=t) h;by_cases q:1<=fy t b
 . exact q
 . exfalso;have a:fy t b<=0:=by omega
   have d:(b < 0->dv t b < 0)/\(¬b < 0->0 < dv t b):=by
    unfold dv;constructor
    . intro z;rw[if_pos z];omega
    . intro z;rw[if_neg z];omega
   by_cases z:b < 0
   . have:=Int.mul_nonneg_of_nonpos_of_nonpos (AG (d.1 z)) a;omega
   . have:=Int.mul_nonpos_of_nonneg_of_nonpos (AG (d.2 z)) a;omega
theorem xh{b:Int}(h:b≠0):Int.gcd (fx t b) (fy t b)=1:=by
 obtain⟨e1,a⟩:=parts (t:=t) h;have g:0 < Int.gcd t b:=zB t h
 have e:Int.gcd t b=(dv t b).natAbs*Int.gcd (fx t b) (fy t b):=by
  have:Int.gcd t b=Int.gcd (dv t b*fx t b) (dv t b*fy t b):=by rw[<-e1,<-a]
  rw[this,Int.gcd_mul_left]
 rw[xH]at e;have:=Nat.eq_of_mul_eq_mul_left g (show Int.gcd t b*1=Int.gcd t b*Int.gcd (fx t b) (fy t b)by rw[<-e,Nat.mul_one])
 exact this.symm
def lw(x y:Int):Prop:=0 < y/\Int.gcd x y=1
theorem jL(h1:Int.gcd x y=1)(h2:Int.gcd x z=1):Int.gcd x (y*z)=1:=by
 show Nat.gcd x.natAbs (y*z).natAbs=1;rw[zA];exact Nat.Coprime.mul_right h1 h2
theorem tJ(h1:Int.gcd y x=1)(h2:Int.gcd z x=1):Int.gcd (y*z) x=1:=by
 rw[Int.gcd_comm];exact jL (by rw[Int.gcd_comm];exact h1) (by rw[Int.gcd_comm];exact h2)
theorem tK(h:Int.gcd (x'*x) y=1):Int.gcd x' y=1:=by
 have e:Nat.gcd (x'*x).natAbs y.natAbs=1:=h;rw[zA]at e;exact Nat.Coprime.coprime_mul_right e
theorem fJ(h:Int.gcd (x*x') y=1):Int.gcd x' y=1:=by
 rw[A9]at h;exact tK h
theorem iV(h:Int.gcd x (y*y')=1):Int.gcd x y'=1:=by
 rw[Int.gcd_comm]at h ⊢;exact fJ h
theorem cz(h:y≠0):∃x' y':Int,x=(Int.gcd x y:Int)*x'/\y=(Int.gcd x y:Int)*y'/\Int.gcd x' y'=1/\x / (Int.gcd x y:Int)=x'/\y / (Int.gcd x y:Int)=y':=by
 have g:0 < Int.gcd x y:=zB x h;obtain⟨x',hx⟩:((Int.gcd x y:Nat):Int)∣x:=Int.gcd_dvd_left ..;obtain⟨y',hy⟩:((Int.gcd x y:Nat):Int)∣y:=Int.gcd_dvd_right ..;have n:((Int.gcd x y:Nat):Int)≠0:=by omega
 refine⟨x',y',hx,hy,?_,?_,?_⟩
 . have e:Int.gcd x y=Int.gcd x y*Int.gcd x' y':=by
    have:Int.gcd x y=Int.gcd ((Int.gcd x y:Int)*x') ((Int.gcd x y:Int)*y'):=by rw[<-hx,<-hy]
    rw[Int.gcd_mul_left,Int.natAbs_natCast]at this;exact this
   have:=Nat.eq_of_mul_eq_mul_left g (show Int.gcd x y*1=Int.gcd x y*Int.gcd x' y' by rw[<-e,Nat.mul_one])
   exact this.symm
 . generalize ((Int.gcd x y:Nat):Int)=k at*;rw[hx];exact Int.mul_ediv_cancel_left _ n
 . generalize ((Int.gcd x y:Nat):Int)=k at*;rw[hy];exact Int.mul_ediv_cancel_left _ n
theorem cZ{k:Int}(hk:0<=k)(h:0 < k*x):0 < x:=by
 by_cases q:0 < x
 . exact q
 . have:=Int.mul_nonpos_of_nonneg_of_nonpos hk (show x<=0 by omega)
   omega
noncomputable def tX(a b c d:Int):Int:=a / (Int.gcd a d:Int)*(c / (Int.gcd c b:Int))
noncomputable def tY(a b c d:Int):Int:=b / (Int.gcd c b:Int)*(d / (Int.gcd a d:Int))
theorem pZ{b c d:Int}(h1:lw a b)(h2:lw c d):lw (tX a b c d) (tY a b c d)/\tX a b c d*(b*d)=a*c*tY a b c d:=by
 obtain⟨b0,o⟩:=h1;obtain⟨t,g2⟩:=h2;obtain⟨s,d',j,m,r,l,q⟩:=cz (x:=a) (y:=d) (by omega)
 obtain⟨c',b',ec,i,h,p,n⟩:=cz (x:=c) (y:=b) (by omega)
 have f0:(0:Int)<=(Int.gcd a d:Int):=by omega
 have k0:(0:Int)<=(Int.gcd c b:Int):=by omega
 unfold tX tY;rw[l,q,p,n];generalize ((Int.gcd a d:Nat):Int)=f at*;generalize ((Int.gcd c b:Nat):Int)=k at*;have e:0 < b':=cZ k0 (by omega)
 have g:0 < d':=cZ f0 (by omega)
 subst j m ec i;have h1:Int.gcd s b'=1:=fJ (iV o);have h2:Int.gcd c' d'=1:=fJ (iV g2);refine⟨⟨Au e g,tJ (jL h1 r) (jL h h2)⟩,?_⟩;simp only[AI,Int.mul_left_comm,A9]
theorem cF{b:Int}(h:b≠0):lw (fx t b) (fy t b):=⟨by have:=xC (t:=t) h;omega,xh h⟩
theorem cu(a b:Int):(a / b).natAbs<=a.natAbs:=Int.natAbs_ediv_le_natAbs a b
end Mth
namespace Tk
open PySem PySem.Spec PyProof.Rows L2
inductive KT where
 |lf (k:Key)
 |tp (ts:List KT)
noncomputable instance:DecidableEq KT:=Classical.typeDecidableEq KT
mutual
noncomputable def KT.depth:KT->Nat
 | .lf _=>0
 | .tp ts=>KTs.depth ts+1
noncomputable def KTs.depth:List KT->Nat
 | []=>0
 |t::ts=>max (KT.depth t) (KTs.depth ts)
end
theorem eJ:∀ {ts:List KT} {t:KT},t∈ts->t.depth<=KTs.depth ts
 |a::ts,t,h=>by
  unfold KTs.depth;rcases yY.mp h with rfl|h
  . omega
  . have:=eJ h;omega
mutual
def KAt(h:Heap):Value->KT->Prop
 |v, .lf k=>fW k v=true
 |v, .tp ts=>∃a o items n,v= .ref a/\h.get? a=some o/\o.cls= .type "tuple"/\o.data= .seq items n/\KsAt h items.toList ts
def KsAt(h:Heap):List Value->List KT->Prop
 |vs,[]=>vs= []
 |vs,t::ts=>∃v r,vs=v::r/\KAt h v t/\KsAt h r ts
end
mutual
theorem KAt.keep{h h':Heap}(k:∀a o items n,h.get? a=some o->o.data= .seq items n->h'.get? a=some o):∀ {v:Value} {t:KT},KAt h v t->KAt h' v t
 |v, .lf k,x=>by unfold KAt at x ⊢;exact x
 |v, .tp ts,x=>by
  unfold KAt at x ⊢;obtain⟨a,o,items,n,e,g,c,d,r⟩:=x;exact⟨a,o,items,n,e,k a o items n g d,c,d,KsAt.keep k r⟩
theorem KsAt.keep{h h':Heap}(k:∀a o items n,h.get? a=some o->o.data= .seq items n->h'.get? a=some o):∀ {vs:List Value} {ts:List KT},KsAt h vs ts->KsAt h' vs ts
 |vs,[],x=>by unfold KsAt at x ⊢;exact x
 |vs,t::ts,x=>by
  unfold KsAt at x ⊢;obtain⟨v,r,e,x1,b⟩:=x;exact⟨v,r,e,KAt.keep k x1,KsAt.keep k b⟩
end
mutual
theorem KAt.det{h:Heap}:∀ {v:Value} {t u:KT},KAt h v t->KAt h v u->t=u
 |v, .lf k, .lf j,x,y=>by
  unfold KAt at x y;rcases aJ x with⟨i,t,rfl,rfl⟩|⟨f,t,rfl,rfl⟩
  . rcases aJ y with⟨i',t',rfl,e⟩|⟨l,t',rfl,e⟩
    . injection e with e1 _;rw[e1]
    . cases e
  . rcases aJ y with⟨i',t',rfl,e⟩|⟨l,t',rfl,e⟩
    . cases e
    . injection e with e1 _;rw[e1]
 |v, .lf k, .tp us,x,y=>by
  unfold KAt at x y;obtain⟨a,o,items,n,rfl,_⟩:=y;rcases aJ x with⟨i,t,rfl,e⟩|⟨f,t,rfl,e⟩<;>cases e
 |v, .tp ts, .lf k,x,y=>by
  unfold KAt at x y;obtain⟨a,o,items,n,rfl,_⟩:=x;rcases aJ y with⟨i,t,rfl,e⟩|⟨f,t,rfl,e⟩<;>cases e
 |v, .tp ts, .tp us,x,y=>by
  unfold KAt at x y;obtain⟨a,o,items,n,rfl,g,c,d,r⟩:=x;obtain⟨m,o',b,n',e,g',c',d',r'⟩:=y;injection e with e;subst e;rw[g]at g';cases g';rw[d]at d';injection d' with d1 _;subst d1;rw[KsAt.det r r']
theorem KsAt.det{h:Heap}:∀ {vs:List Value} {ts us:List KT},KsAt h vs ts->KsAt h vs us->ts=us
 |vs,[],[],_,_=>rfl
 |vs,[],u::us,x,y=>by
  unfold KsAt at x y;obtain⟨v,r,e,_⟩:=y;rw[x]at e;cases e
 |vs,t::ts,[],x,y=>by
  unfold KsAt at x y;obtain⟨v,r,e,_⟩:=x;rw[y]at e;cases e
 |vs,t::ts,u::us,x,y=>by
  unfold KsAt at x y;obtain⟨v,r,rfl,x1,a⟩:=x;obtain⟨v',r',e,y1,b⟩:=y;cases e;rw[KAt.det x1 y1,KsAt.det a b]
end
theorem KsAt.len{h:Heap}:∀ {vs:List Value} {ts:List KT},KsAt h vs ts->vs.length=ts.length
 |vs,[],x=>by unfold KsAt at x;rw[x];rfl
 |vs,t::ts,x=>by
  unfold KsAt at x;obtain⟨v,r,rfl,_,a⟩:=x;rw[zg,zg,KsAt.len a]
theorem KsAt.get{h:Heap}:∀ {vs:List Value} {ts:List KT} {j:Nat} {v:Value},KsAt h vs ts->vs[j]?=some v->∃t,ts[j]?=some t/\KAt h v t
 |vs,[],j,v,x,e=>by
  unfold KsAt at x;rw[x]at e;cases e
 |vs,t::ts,0,v,x,e=>by
  unfold KsAt at x;obtain⟨v',r,rfl,x1,_⟩:=x;cases e;exact Y3 t rfl x1
 |vs,t::ts,j+1,v,x,e=>by
  unfold KsAt at x;obtain⟨v',r,rfl,_,a⟩:=x;exact KsAt.get (j:=j) a e
section
variable(prog:Program)(w:World)
mutual
noncomputable def KT.hash:KT->Int
 | .lf k=>(aO prog w).hash k
 | .tp ts=>reduceHash (Builtin.Tuple.tupleHashOf (KTs.hash ts))
noncomputable def KTs.hash:List KT->List Int
 | []=> []
 |t::ts=>KT.hash t::KTs.hash ts
end
end
mutual
noncomputable def KT.draws:KT->Nat
 | .lf _=>1
 | .tp ts=>KTs.draws ts+1
noncomputable def KTs.draws:List KT->Nat
 | []=>0
 |t::ts=>KT.draws t+KTs.draws ts
end
theorem kL(prog:Program)(w:World):∀(a b:List KT),KTs.hash prog w (a++b)=KTs.hash prog w a++KTs.hash prog w b
 | [],b=>by simp[KTs.hash]
 |t::a,b=>by simp[KTs.hash,kL prog w a b]
theorem iU:∀(a b:List KT),KTs.draws (a++b)=KTs.draws a+KTs.draws b
 | [],b=>by simp[KTs.draws]
 |t::a,b=>by simp[KTs.draws,iU a b,Nat.add_assoc]
theorem uR:∀(n:Nat) {A:Around} {E:Value->Shared->Prop} {s:Shared} {t:KT} {v:Value} {Q:Int->Shared->Prop},t.depth<=n->A.units+n < cLine->KAt s.heap v t->Q (t.hash prog w) {s with toks:=s.toks+t.draws}->wpAny (model prog w) A (pyHash v) Q E s:=by
 intro n
 induction n with
 |zero=>
  intro A E s t v Q hd hu hk h
  cases t with
  |tp ts=>simp[KT.depth]at hd
  |lf k=>
   unfold KAt at hk;simp only[KT.hash,KT.draws]at h;exact(aO prog w).pyHash hk h
 |succ n l=>
  intro A E s t v Q hd hu hk h
  cases t with
  |lf k=>
   unfold KAt at hk;simp only[KT.hash,KT.draws]at h;exact(aO prog w).pyHash hk h
  |tp ts=>
   unfold KAt at hk;refine hZq fun q_ e_=>?_;obtain⟨a,o,items,m,rfl,g,c,d,r⟩:=hk;subst e_;have ty:s.TypeIs (.ref a) "tuple":=Y3 o g c
   have p:KTs.depth ts<=n:=by
    unfold KT.depth at hd;omega
   simp only[KT.hash,KT.draws]at h;unfold pyHash;unfold pyHashByItsType;refine wpAny_bind (wpAny_cRoomFor_or (.inr (by omega)) (wpAny_bind (wpAny_specialOf ty F.slot_tuple_hash.lookup ?_)))
   show wpAny _ _ (if (some (Value.builtin "tuple.__hash__")==some Value.none)=true then _ else _) _ _ _;rw[if_neg (fun z=>by rw[beq_builtin_none]at z;cases z)]
   refine wpAny_bind (wpAny_specialOf ty F.slot_tuple_hash.lookup ?_);show wpAny _ _ (do let y<-callSpecialIfBoundUnlessNone? (.ref a) "__hash__" _;_) _ _ _
   refine wpAny_bind (wpAny_callSpecialIfBoundUnlessNone?_slot ty F.slot_tuple_hash (wpAny_call_entry F.slot_tuple_hash ty F.entry_tuple_hash ?_ (F.args_tuple_hash_1 _)));show wpAny _ _ (do let y<-Builtin.Tuple.tupleItemsOf (.ref a);_) _ _ _
   refine wpAny_bind (wpAny_tupleItemsOf g d (wpAny_bind ?_));rw[<-Array.forIn_toList];refine wpAny_forIn_list _ (fun rest (b:Array Int) s'=>∃done left,ts=done++left/\KsAt s.heap rest left/\b.toList=KTs.hash prog w done/\s'= {s with toks:=s.toks+KTs.draws done}) _ ?_ ?_ _ _ (Y7 ([]) ts rfl r rfl (by simp[KTs.draws]))
   . intro x rest b s' z_;refine hZq fun q_ e_=>?_;obtain⟨done,left,rfl,hl,hb,rfl⟩:=z_;subst e_
     cases left with
     |nil=>
      unfold KsAt at hl;cases hl
     |cons t left=>
      unfold KsAt at hl;refine hZq fun q_ e_=>?_;obtain⟨v,j,e,h1,h2⟩:=hl;subst e_;cases e
      have dt:t.depth<=n:=by
       have:=eJ (show t∈done++t::left by simp)
       omega
      refine wpAny_bind (l (s:= {s with toks:=s.toks+KTs.draws done}) dt (by first|(show A.units+1+n < cLine;omega)|(show A.units+n < cLine;omega)) h1 ?_)
      have fin:∃f i,done++t::left=f++i/\KsAt s.heap rest i/\(b.push (KT.hash prog w t)).toList=KTs.hash prog w f/\({s with toks:=s.toks+KTs.draws done+t.draws}:Shared)= {s with toks:=s.toks+KTs.draws f}:=by
       refine Y7 (done++ [t]) left (by simp) h2 (by rw[kL,Array.toList_push,hb];simp[KTs.hash]) ?_
       rw[iU];simp[KTs.draws,Nat.add_assoc]
      first
       |exact wpAny_pure fin
       |exact wpAny_bind (wpAny_pure (wpAny_pure fin))
   . intro b s' z_;refine hZq fun q_ e_=>?_;obtain⟨done,left,rfl,hl,hb,rfl⟩:=z_;subst e_
     cases left with
     |cons t left=>
      unfold KsAt at hl;refine hZq fun q_ e_=>?_;obtain⟨v,j,e,_⟩:=hl;subst e_;cases e
     |nil=>
      rw[Aw]at h;show wpAny _ _ (retInt (Builtin.Tuple.tupleHashOf b.toList)) _ _ _;rw[hb];refine wpAny_ret_mkInt ?_;show wpAny _ _ (if (decide (-(2:Int)^63<=Builtin.Tuple.tupleHashOf (KTs.hash prog w done))&&decide (Builtin.Tuple.tupleHashOf (KTs.hash prog w done) < 2^63))=true then _ else _) _ _ _;unfold reduceHash at h;by_cases hr:(decide (-(2:Int)^63<=Builtin.Tuple.tupleHashOf (KTs.hash prog w done))&&decide (Builtin.Tuple.tupleHashOf (KTs.hash prog w done) < 2^63))=true
      . rw[if_pos hr]at h ⊢;exact wpAny_pure (by simpa [Nat.add_assoc]using h)
      . rw[if_neg hr]at h ⊢;exact wpAny_bind (wpAny_rule (wpAny_pure (by simpa [Nat.add_assoc]using h)))
theorem vd{ts us:List KT}:((List.range (min ts.length us.length)).all (fun j=>decide (ts[j]?=us[j]?))&&ts.length==us.length)=decide (ts=us):=by
 by_cases h:ts=us
 . subst h;simp
 . rw[decide_eq_false h];by_cases hl:ts.length=us.length
   . have:∃j,j < ts.length/\ts[j]?≠us[j]?:=by
      refine Classical.byContradiction fun n=>h (List.ext_getElem? fun j=>?_);by_cases a:j < ts.length
      . exact Classical.byContradiction fun z=>n (Y3 j a z)
      . rw[Ar (by omega),Ar (by omega)]
     obtain⟨j,a,ne⟩:=this;rw[Bool.and_eq_false_iff];left;refine List.all_eq_false.mpr (Y3 j (zZ.mpr (by omega)) ?_)
     simp[ne]
   . rw[Bool.and_eq_false_iff];right;simp[hl]
theorem yN:∀(n:Nat) {A:Around} {s:Shared} {t u:KT} {a b:Value},t.depth<=n->A.units+n+1 < cLine->KAt s.heap a t->KAt s.heap b u->SeqAt.EqAt A s a b (decide (t=u)):=by
 intro n
 induction n with
 |zero=>
  intro A s t u a b hd hu h1 h2
  cases t with
  |tp ts=>simp[KT.depth]at hd
  |lf k=>
   unfold KAt at h1
   cases u with
   |lf j=>
    unfold KAt at h2;intro prog w E Q q;refine(aO prog w).eqBool h1 h2 ?_;have e:decide (k=j)=decide (KT.lf k=KT.lf j):=by simp
    rw[e];exact q
   |tp us=>
    unfold KAt at h2;obtain⟨r,o,items,m,rfl,g,c,d,_⟩:=h2;rw[decide_eq_false (by intro z;cases z)]
    rcases aJ h1 with⟨i,t,rfl,rfl⟩|⟨x,t,rfl,rfl⟩
    . exact SeqAt.EqAt.int_tuple i t (items:=items) (J6 o g c m d) (by omega)
    . exact SeqAt.EqAt.str_tuple x t (items:=items) (J6 o g c m d) (by omega)
 |succ n ih=>
  intro A s t u a b hd hu h1 h2
  cases t with
  |lf k=>
   unfold KAt at h1
   cases u with
   |lf j=>
    unfold KAt at h2;intro prog w E Q q;refine(aO prog w).eqBool h1 h2 ?_;have e:decide (k=j)=decide (KT.lf k=KT.lf j):=by simp
    rw[e];exact q
   |tp us=>
    unfold KAt at h2;obtain⟨r,o,items,m,rfl,g,c,d,_⟩:=h2;rw[decide_eq_false (by intro z;cases z)]
    rcases aJ h1 with⟨i,t,rfl,rfl⟩|⟨x,t,rfl,rfl⟩
    . exact SeqAt.EqAt.int_tuple i t (items:=items) (J6 o g c m d) (by omega)
    . exact SeqAt.EqAt.str_tuple x t (items:=items) (J6 o g c m d) (by omega)
  |tp ts=>
   have p:=h1;have l:=h2;unfold KAt at h1;obtain⟨r,o,items,m,rfl,g,c,d,k1⟩:=h1
   cases u with
   |lf j=>
    unfold KAt at h2;rw[decide_eq_false (by intro z;cases z)]
    rcases aJ h2 with⟨i,t,rfl,rfl⟩|⟨x,t,rfl,rfl⟩
    . exact SeqAt.EqAt.tuple_int i t (items:=items) (J6 o g c m d) (by omega)
    . exact SeqAt.EqAt.tuple_str x t (items:=items) (J6 o g c m d) (by omega)
   |tp us=>
    unfold KAt at h2;obtain⟨r',o',f,m',rfl,g',c',d',k2⟩:=h2;by_cases z:r=r'
    . subst z;rw[decide_eq_true (KAt.det p l)];exact SeqAt.EqAt.same _
    . have ai:KTs.depth ts<=n:=by
       unfold KT.depth at hd;omega
      have l1:=k1.len;have l2:=k2.len
      have:=SeqAt.RcAt.tuples (A:=A) (e:=fun j=>decide (ts[j]?=us[j]?)) (show s.heap.IsTuple r items from(J6 o g c m d)) (show s.heap.IsTuple r' f from(J6 o' g' c' m' d')) (by omega) fun j g1 g2=>by
       obtain⟨t1,e1,a1⟩:=k1.get (j:=j) (v:=items[j]) (by rw[A5];simp[g1])
       obtain⟨t2,e2,a2⟩:=k2.get (j:=j) (v:=f[j]) (by rw[A5];simp[g2])
       have e:decide (ts[j]?=us[j]?)=decide (t1=t2):=by rw[e1,e2];simp
       rw[e];refine ih (A:=A.in1) ?_ (by show A.units+1+n+1 < cLine;omega) a1 a2
       have:=eJ (z5 e1);omega
      have h:items.size=ts.length:=by rw[<-l1,zX]
      have y:f.size=us.length:=by rw[<-l2,zX]
      rw[h,y,vd]at this;have e:decide (KT.tp ts=KT.tp us)=decide (ts=us):=by simp
      rw[e];exact SeqAt.EqAt.of_refs z this
theorem rG:∀(n:Nat) {prog:Program} {w:World} {A:Around} {E:Value->Shared->Prop} {s:Shared} {t:KT} {v:Value} {Q:Bool->Shared->Prop},KAt s.heap v t->t.depth<=n->Q true s->wpAny (model prog w) A (eqIsQuiet n v) Q E s:=by
 have f:∀(n:Nat) {prog:Program} {w:World} {A:Around} {E:Value->Shared->Prop} {s:Shared} {k:Key} {v:Value} {Q:Bool->Shared->Prop},fW k v=true->Q true s->wpAny (model prog w) A (eqIsQuiet n v) Q E s:=by
  intro n prog w A E s k v Q h q;rw[eqIsQuiet_byValue _ ((aO prog w).byValue k v h)];exact wpAny_pure q
 intro n
 induction n with
 |zero=>
  intro prog w A E s t v Q h hd q
  cases t with
  |tp ts=>simp[KT.depth]at hd
  |lf k=>
   unfold KAt at h;exact f 0 h q
 |succ n l=>
  intro prog w A E s t v Q h hd q
  cases t with
  |lf k=>
   unfold KAt at h;exact f _ h q
  |tp ts=>
   unfold KAt at h;obtain⟨a,o,items,m,rfl,g,c,d,r⟩:=h;have ty:s.TypeIs (.ref a) "tuple":=Y3 o g c
   have j:KTs.depth ts<=n:=by
    unfold KT.depth at hd;omega
   unfold eqIsQuiet;refine wpAny_bind (wpAny_specialOf ty F.slot_tuple_eq.lookup ?_);show wpAny _ _ (do let y<-isInstance (.ref a) (.type "tuple");_) _ _ _
   refine wpAny_bind (wpAny_isInstance ty isSubtype_tuple_tuple ?_);simp only[Bool.not_true,if_false,Ak];refine wpAny_bind (wpAny_seqItems g d (wpAny_bind ?_));show wpAny _ _ (forIn items _ _) _ _ _;rw[<-Array.forIn_toList];refine wpAny_forIn_list _ (fun rest b s'=>b.1=none/\s'=s/\∃left,KsAt s.heap rest left/\KTs.depth left<=n) _ ?_ ?_ _ _ ⟨rfl,rfl,Y3 ts r j⟩
   . rintro x rest b s' ⟨hb,rfl,left,hl,i⟩
     cases left with
     |nil=>
      unfold KsAt at hl;cases hl
     |cons t left=>
      unfold KsAt at hl;obtain⟨v,p,e,h1,h2⟩:=hl;cases e;unfold KTs.depth at i;refine wpAny_bind (l h1 (by omega) ?_)
      simp only[Bool.not_true,if_false,Ak];exact wpAny_pure ⟨rfl,rfl,Y3 left h2 (by omega)⟩
   . rintro⟨b1,b2⟩ s' ⟨hb,rfl,_⟩;simp only at hb;subst hb;exact wpAny_pure q
noncomputable def treeKind(prog:Program)(w:World):HeapKind prog w (List KT) where
 is:=fun h ts a=>KAt h (.ref a) (.tp ts)/\(KT.tp ts).depth<=8
 hash:=fun ts=>(KT.tp ts).hash prog w
 draws:=fun ts=>(KT.tp ts).draws
 room:=fun A=>A.units+20 < cLine
 inj:=fun x y=>by
  have:=KAt.det x.1 y.1;injection this
 keeps:=fun{h h' k a d o es ep} x g hd sb=>⟨x.1.keep fun b ob items n e dt=>by
  have ne:b≠d:=fun z=>by
   subst z;rw[g]at e;cases e;rw[hd]at dt;cases dt
  exact(sb.2 b ne).trans e,x.2⟩
 pyHash:=fun hu x q=>uR 8 x.2 (by omega) x.1 q
 eqBool:=fun{A E s x y a b Q} hu hx hy q=>by
  refine yN 8 (t:= .tp x) (u:= .tp y) hx.2 (by omega) hx.1 hy.1 prog w E Q ?_
  have e:decide (KT.tp x=KT.tp y)=decide (x=y):=by simp
  rw[e];exact q
 quiet:=fun x q=>rG 8 x.1 x.2 q
end Tk
namespace L2
open PySem
noncomputable def cN(names:List (Str×NameKind))(cells:List (Str×Addr)):List (Str×Addr)->List (Str×Addr):=match names with
 | []=>fun cs=>cs
 |(n,k)::r=>fun cs=>cN r cells (if (k== .free)=true then(n,(cells.lookup n).getD 0)::cs else cs)
noncomputable def bL(names:List (Str×NameKind))(cells:List (Str×Addr)):Bool:=names.all fun y=> !(y.2== .free) ||(cells.lookup y.1).isSome
theorem jQ(env:Env):∀(names:List (Str×NameKind)) (cs:List (Str×Addr)),bL names env.cells=true->
 (forIn names cs fun(x:Str×NameKind) (r:List (Str×Addr))=>match x with
  |(name,kind)=>if (kind==NameKind.free)=true then do let __do_lift<-cellOf env name;pure (ForInStep.yield ((name,__do_lift)::r))else pure (ForInStep.yield r):Sem (List (Str×Addr)))=pure (cN names env.cells cs)
 | [],cs,_=>rfl
 |(n,k)::r,cs,h=>by
  unfold bL at h;rw[List.all_cons,AE]at h;rw[List.forIn_cons];unfold cN;by_cases hk:(k==NameKind.free)=true
  . rw[if_pos hk];dsimp only;rw[if_pos hk]
    have h1:(env.cells.lookup n).isSome=true:=by
     have:=h.1;rw[hk]at this;simpa using this
    obtain⟨c,hc⟩:=Option.isSome_iff_exists.mp h1;have e:cellOf env n=pure c:=by unfold cellOf;rw[hc]
    rw[e,hc];exact jQ env r _ h.2
  . rw[if_neg hk];dsimp only;rw[if_neg hk];exact jQ env r _ h.2
theorem gE(h:bL scope.names env.cells=true):closureFor scope env=pure (cN scope.names env.cells []):=by
 unfold closureFor;have:=jQ env scope.names [] h;simp only[bind_pure];exact this
theorem l8{cells:List (Str×Addr)}:∀(names:List (Str×NameKind)) (cs:List (Str×Addr)),bL names cells=true->(∀y c,cs.lookup y=some c->cells.lookup y=some c)->∀y c,(cN names cells cs).lookup y=some c->cells.lookup y=some c
 | [],cs,_,hc,y,c,e=>hc y c e
 |(n,k)::r,cs,h,hc,y,c,e=>by
  unfold bL at h;rw[List.all_cons,AE]at h;refine l8 r _ h.2 (fun z d q=>?_) y c e;by_cases hk:(k==NameKind.free)=true
  . rw[if_pos hk,A8]at q
    cases f:(z==n)with
    |true=>
     rw[f]at q
     have h1:(cells.lookup n).isSome=true:=by
      have:=h.1;rw[hk]at this;simpa using this
     obtain⟨c',a⟩:=Option.isSome_iff_exists.mp h1;have b:z=n:=by simpa using f
     rw[b,a];have g:some ((cells.lookup n).getD 0)=some d:=q;rw[a]at g;exact g
    |false=>
     rw[f]at q;exact hc z d q
  . rw[if_neg hk]at q;exact hc z d q
theorem iW{cells:List (Str×Addr)}:∀(names:List (Str×NameKind)) (cs:List (Str×Addr)) (y:Str),(∃c,cs.lookup y=some c)->∃c,(cN names cells cs).lookup y=some c
 | [],cs,y,h=>h
 |(n,k)::r,cs,y,h=>by
  refine iW r _ y ?_;by_cases hk:(k==NameKind.free)=true
  . rw[if_pos hk,A8]
    cases a:(y==n)with
    |true=>exact⟨_,rfl⟩
    |false=>exact h
  . rw[if_neg hk];exact h
theorem ij{cells:List (Str×Addr)}:∀(names:List (Str×NameKind)) (cs:List (Str×Addr)) (y:Str),(y,NameKind.free)∈names->∃c,(cN names cells cs).lookup y=some c
 | [],_,y,h=>by cases h
 |(n,k)::r,cs,y,h=>by
  rcases yY.mp h with e|h
  . obtain⟨e1,a⟩:=Prod.mk.inj e;subst e1;subst a;unfold cN;refine iW r _ y ?_;rw[if_pos (show(NameKind.free==NameKind.free)=true from rfl),A8];have:(y==y)=true:=by simp
    rw[this];exact⟨_,rfl⟩
  . exact ij r _ y h
open PySem.Spec PyProof.Rows
noncomputable abbrev XC(X:Cx)(scope:Scope)(NC:List Str)(C:Addr)(s:Shared)(H:Hp)(fp:List Addr)(pn:List (Addr×Obj)):Cx:=
 {X with N:=NC,s₀:=s,H₀:=H,env:=compEnvC scope (cN scope.names X.env.cells []) C X.env,outer:=X.stack,stack:=X.stack,ex:=fp,fn:=fun _=>false,pn:=pn,xe:=fun _ _=>False}
noncomputable def subS(mp:List (Option Nat))(σ:St):St:=mp.map fun o=>match o with
 |some i=>(σ[i]?).getD none
 |none=>none
noncomputable def fP(N NC:List Str)(mp:List (Option Nat))(names outer:List (Str×NameKind)):Bool:=(List.range mp.length).all fun j=>match mp[j]? with
 |some (some i)=>(match NC[j]?,N[i]? with
  |some y,some z=>y==z&&names.lookup y==some NameKind.free&& (outer.lookup y==some NameKind.cell ||outer.lookup y==some NameKind.free)
  |_,_=>false)
 |_=>true
theorem si{names outer:List (Str×NameKind)}(h:fP N NC mp names outer=true)(e:mp[j]?=some (some i)):∃y,NC[j]?=some y/\N[i]?=some y/\names.lookup y=some .free/\(outer.lookup y=some .cell\/outer.lookup y=some .free):=by
 unfold fP at h;rw[List.all_eq_true]at h;have a:j < mp.length:=(yZ.mp e).1;have:=h j (zZ.mpr a);rw[e]at this;dsimp only at this;split at this
 . rename_i y z e1 b;simp only[AE,Bool.or_eq_true,beq_iff_eq]at this;obtain⟨⟨rfl,h2⟩,h3⟩:=this;exact U8 y e1 b h2 h3
 . cases this
def PTs(X:Cx)(ifs:List Expr)(t:TT):Prop:=
 ∀(pins:List (Addr×Obj)) (s:Shared) (σ:St) (H:Hp) (Q:Bool->Hp->Prop),Inv X pins σ H s->t σ H Q->
  wpAny (model X.prog X.w) X.A (forIn ifs true fun c r=>if r=true then do let ok<-isTrue c X.env (eval c X.env);pure (ForInStep.yield ok)else pure (ForInStep.yield r)) (TP X pins σ Q) X.xe s
def cY:TT:=fun _ H Q=>Q true H
theorem aV:PTs X [] cY:=fun _ _ σ H Q I h=>wpAny_tests_nil ⟨H,I,h⟩
theorem cp{c:Expr}{t:TT}(hc:PT X c t):PTs X [c] t:=fun pins s σ H Q I h=>wpAny_tests_one (hc pins s σ H Q I h)
def Ext(σ σ':St):Prop:=∀(j:Nat) (v:V),σ[j]?=some (some v)->σ'[j]?=some (some v)
variable{H3:Hp}{J:It}{r σ5:St}{kvs:List (Key×V)}{o:Option V}{elt:Expr}{s3 s5:Shared}{m:Str->Option Value}{u:Value}
theorem ext1:Ext (none::r) (o::r)
 |0,v,e=>by cases (z9 (show some (none:Option V)=some (some v)from e))
 |j+1,v,e=>e
theorem ext2{p:Option V}:Ext (none::none::r) (o::p::r)
 |0,v,e=>by cases (z9 (show some (none:Option V)=some (some v)from e))
 |1,v,e=>by cases (z9 (show some (none:Option V)=some (some v)from e))
 |j+2,v,e=>e
def bU(mp:List (Option Nat))(wi:TI)(g:TG)(tc:TT)(te:TE):TE:=fun σ H Q=>wi σ H fun J H1=>∀D,H1 D=none->
 ∃W:Nat->Nat->List V->Hp->Prop,(∃m,W 0 m [] (upd H1 D (.lst [])))/\∀i m acc H2,W i m acc H2->
  (J.stop i H2/\Q (.ref D) H2)\/
  (J.go i H2/\∀x H3,J.yld i H2 x H3->g x (subS mp σ) H3 fun σ4 H4=>Ext (subS mp σ) σ4/\tc σ4 H4 fun b H5=>if b=true then te σ4 H5 fun v H6=>H6 D=some (.lst acc)/\acc.length < sizeLine/\∃m',m' < m/\W (i+1) m' (acc++ [v]) (upd H6 D (.lst (acc++ [v])))
   else∃m',m' < m/\W (i+1) m' acc H5)
theorem ci{env:Env}:∀ {names:List (Str×NameKind)} {x:Str},names.lookup x=some .free->
 (names.map fun(n,k)=>if (k==NameKind.free&&env.scope.kind== .function&&env.kindOf n==some .cell)then(n,NameKind.cell)else(n,k)).lookup x=some .cell\/
 (names.map fun(n,k)=>if (k==NameKind.free&&env.scope.kind== .function&&env.kindOf n==some .cell)then(n,NameKind.cell)else(n,k)).lookup x=some .free
 | [],_,h=>by simp at h
 |(n,k)::r,x,h=>by
  have a:= @ci env r x;show List.lookup x ((if (k==NameKind.free&&env.scope.kind== .function&&env.kindOf n==some .cell)=true then(n,NameKind.cell)else(n,k))::_)=_\/List.lookup x ((if (k==NameKind.free&&env.scope.kind== .function&&env.kindOf n==some .cell)=true then(n,NameKind.cell)else(n,k))::_)=_
  cases hx:x==n with
  |true=>
   simp only[A8,hx]at h;cases h;by_cases hc:(NameKind.free==NameKind.free&&env.scope.kind== .function&&env.kindOf n==some .cell)=true
   . rw[if_pos hc];left;simp only[A8,hx]
   . rw[if_neg hc];right;simp only[A8,hx]
  |false=>
   simp only[A8,hx]at h;by_cases hc:(k==NameKind.free&&env.scope.kind== .function&&env.kindOf n==some .cell)=true
   . rw[if_pos hc];simp only[A8,hx];exact a h
   . rw[if_neg hc];simp only[A8,hx];exact a h
theorem fN{env:Env}:∀ {names:List (Str×NameKind)} {x:Str},(∀y∈names,y.2≠ .cell)->
 ((names.map fun(n,k)=>if (k==NameKind.free&&env.scope.kind== .function&&env.kindOf n==some .cell)then(n,NameKind.cell)else(n,k)).lookup x=some .cell\/
 (names.map fun(n,k)=>if (k==NameKind.free&&env.scope.kind== .function&&env.kindOf n==some .cell)then(n,NameKind.cell)else(n,k)).lookup x=some .free)->(x,NameKind.free)∈names
 | [],_,_,h=>by simp at h
 |(n,k)::r,x,hn,h=>by
  have b:= @fN env r x (fun y hy=>hn y (yU _ hy));have c:k≠ .cell:=hn (n,k) yT;rw[zh]at h;dsimp only at h
  cases hx:x==n with
  |true=>
   have a:x=n:=by simpa using hx
   subst a;by_cases hc:(k==NameKind.free&&env.scope.kind== .function&&env.kindOf x==some .cell)=true
   . have:k= .free:=by
      have:=hc;rw[AE,AE]at this;simpa using this.1.1
     rw[this];exact yT
   . rw[if_neg hc,A8,hx]at h;rcases h with h|h
     . exact absurd (z9 h) c
     . cases (z9 h);exact yT
  |false=>
   refine yU _ (b ?_);by_cases hc:(k==NameKind.free&&env.scope.kind== .function&&env.kindOf n==some .cell)=true
   . rw[if_pos hc,A8,hx]at h;exact h
   . rw[if_neg hc,A8,hx]at h;exact h
theorem Inv.block{h1:Heap}{tk:Nat}(I:Inv X pins σ H s)(hf:∀b∈fp,FpOk X pins H b)(hlt:∀b∈fp,b < s.heap.objs.size)(hk:scope.kind= .function)(hnc:∀y∈scope.names,y.2≠ .cell)(hc:bL scope.names X.env.cells=true)(hl:mp.length=NC.length)(hm:fP X.N NC mp scope.names X.env.scope.names=true)(kp:∀b o,s.heap.get? b=some o->h1.get? b=some o)(hn:h1.Ns s.heap.objs.size m):
 Inv (XC X scope NC s.heap.objs.size s H fp (X.pn++pins)) [] (subS mp σ) H {s with heap:=h1,toks:=tk}:=by
 have sub:=l8 (cells:=X.env.cells) scope.names [] hc (fun y c e=>by cases e)
 have lt:∀b o,s.heap.get? b=some o->b≠s.heap.objs.size:=fun b o e=>zo (Heap.lt_size e)
 have l:∀b,b≠X.env.locals->b∉X.fs->b∉frs X.stack:=fun b h1 h2 z=>by
  rcases yY.mp (I.stkSub b z)with e|e
  . exact h1 e
  . exact h2 e
 refine⟨⟨I.ok.mod,hk,I.ok.glob,I.ok.blt,yV _,fun x y c e1 d=>I.ok.inj x y c (sub x c e1) (sub y c d),fun x hx=>?_,(fun _ _ z=>by cases z),I.ok.hd,I.ok.frames, .inl rfl,fun b hb=>?_,fun b o e=>?_,z7 I.ok.bsz I.sz,fun b o e hb=>?_,fun b hb=>?_,I.stack,I.stkFree⟩,
  rfl,I.bare,Un.kept kp,(Y3 m hn (fun j y v e1 d e3=>?_)),fun y c e=>?_,I.hok.fresh (yV _),fun y c e=>I.freeC y c (sub y c e),fun p hp=>?_,I.hok.kept kp,?_⟩
 . exact ij scope.names [] x (fN hnc hx)
 . obtain⟨f0,f1,f2,r,f4,f5⟩:=hf b hb;exact⟨zo (hlt b hb),fun x c e=>f4 x c (sub x c e)⟩
 . obtain⟨h1,h2⟩:=I.bs b o e;exact⟨h1,h2⟩
 . obtain⟨f0,f1,f2,r,f4,f5⟩:=hf b hb;rcases r with z|z
   . exact I.ok.noex b o e z
   . exact absurd (ze (Heap.lt_size e) (z7 I.ok.bsz z)) (zN _)
 . obtain⟨f0,f1,f2,r,f4,f5⟩:=hf b hb;exact l b f1 f2
 ·
  unfold subS at d;rw[yW]at d
  cases q:mp[j]? with
  |none=>rw[q]at d;cases d
  |some o=>
   rw[q]at d
   cases o with
   |none=>cases d
   |some i=>
    have a:some ((σ[i]?).getD none)=some (some v):=d;obtain⟨z,y1,y2,y3,k⟩:=si hm q;have yz:y=z:=z9 ((show NC[j]?=some y from e1).symm.trans y1);subst yz
    have e4:σ[i]?=some (some v):=by
     cases w:σ[i]? with
     |none=>rw[w]at a;cases a
     |some t=>rw[w]at a;exact a
    obtain⟨m0,aB,ai⟩:=I.loc;obtain⟨c,h⟩:=ij (cells:=X.env.cells) scope.names [] y (PySem.mem_of_lookup y3);have aA:=sub y c h;have ao:Vis X.env.scope y:= .inr k;obtain⟨u,ru,lk⟩:=ai i y v y2 e4 ao;refine Y3 u ru (.inr ⟨ci y3,Y3 c h ?_⟩);rcases lk with⟨k1,_⟩|⟨_,c',k2,k3⟩
    . have g:X.env.scope.names.lookup y=some .local:=k1;rcases k with k|k<;>(rw[k]at g;cases g)
    . rw[aA]at k2;cases k2;obtain⟨oc,f,n⟩:=k3;exact Y3 oc (kp _ _ f) n
 . obtain⟨v,oc,f,n⟩:=I.cell y c (sub y c e);exact U3 v oc (kp _ _ f) n
 . have au:p∈X.pn++pins:=by simpa using hp
   obtain⟨f,n,q3,q4,q5⟩:=I.pin p au;exact⟨kp _ _ f,n,lt _ _ f,l _ q3 q4,q5⟩
 . show(subS mp σ).length=NC.length;unfold subS;rw[yR,hl]
def CT(e target iter:Expr)(ifs:List Expr)(it acc:Value)(env:Env)(M:Sem Unit):Prop:=compTurn e 0 it acc env=(do
 standAt iter.pos
 match<-pyNext it with
 |none=>pure (.done .next)
 |some v=>
  letOwnedTupleGo target it v
  assign target env v
  let mut ok:=true
  for c in ifs do
   if ok then ok<-isTrue c env (eval c env)
  if ok then M
  again (.compLoop e 0 it acc env))/\(∀prog w,(model prog w).den (.compLoop e 0 it acc env)=(compTurn e 0 it acc env).onRaise fun x=>do noteFrame x env;theTreesLotGoes x)/\∀A:Around,A.under (.compLoop e 0 it acc env)=A
theorem kW{it acc:Value}{M:Sem Unit}(I:Nat->Shared->Prop)(ct:CT e target iter ifs it acc env M)(turn:∀n s,I n s->wpAny (model prog w) A (pyNext it) (fun r s₁=>match r with
  |none=>R (.ok .next) s₁
  |some v=>wpAny (model prog w) A (letOwnedTupleGo target it v) (fun _ s₁'=>wpAny (model prog w) A (assign target env v) (fun _ s₂=>
   wpAny (model prog w) A (forIn ifs true fun c r=>if r=true then do let ok<-isTrue c env (eval c env);pure (ForInStep.yield ok)else pure (ForInStep.yield r)) (fun ok s₃=>
    if ok=true then wpAny (model prog w) A M (fun _ s₅=>∃m,m < n/\I m s₅) (fun _ _=>False) s₃
    else∃m,m < n/\I m s₃) (fun _ _=>False) s₂) (fun _ _=>False) s₁') (fun _ _=>False) s₁) (fun _ _=>False) s)(n:Nat)(h:I n s):codeAny (model prog w) A (.compLoop e 0 it acc env) R s:=by
 refine codeAny_loop rfl I (fun n s g=>?_) n h;rw[ct.2.1,ct.2.2];refine wpAny_noted ?_;rw[ct.1];refine wpAny_bind (wpAny_standAt (wpAny_bind (wpAny_mono (turn n s g) (fun r s₁ b=>?_) fun _ _ z=>z.elim)))
 cases r with
 |none=>exact wpAny_pure b
 |some v=>
  refine wpAny_bind (wpAny_mono b (fun _ s₁' a=>wpAny_bind (wpAny_mono a (fun _ s₂ i=>wpAny_bind (wpAny_mono i (fun ok s₃ d=>?_) fun _ _ z=>z.elim)) fun _ _ z=>z.elim)) fun _ _ z=>z.elim)
  cases ok with
  |false=>exact wpAny_pure ⟨rfl,d⟩
  |true=>exact wpAny_bind (wpAny_mono d (fun _ s₅ f=>wpAny_pure ⟨rfl,f⟩) fun _ _ z=>z.elim)
theorem Inv.out{h6:Heap}(I3:Inv X pins σ H3 s3)(f3:∀b∈fp,FpOk X pins H3 b)(I5:Inv (XC X scope NC s3.heap.objs.size s3 H3 fp (X.pn++pins)) [] σ5 H5 s5)(sb6:Heap.SameBut s3.heap.objs.size s5.heap h6):Inv X pins σ H5 {s5 with heap:=h6}:=by
 have d:∀b o,b≠s3.heap.objs.size->s5.heap.get? b=some o->h6.get? b=some o:=fun b o hb e=>sb6.extBut b o hb e;have f:∀b o,s3.heap.get? b=some o->b≠s3.heap.objs.size:=fun b o e=>zo (Heap.lt_size e);have un:Un (frs X.stack) fp H3 H5 s3.heap s5.heap:=I5.base;have a:H5 s3.heap.objs.size=none:=I5.free;refine I3.call' (s':= {s5 with heap:=h6}) (ch:=fp) I5.os ⟨fun b o e n hb hx=>d b o (f b o e) (un.keep b o e n hb hx),fun b o e n hb hx=>?_,un.free,fun b o e hx=>?_,un.tups,un.frzs,un.tbls⟩ ?_ I5.bare (fun b hb=>?_)
 . obtain⟨sl,e1⟩:=un.slot b o e n hb hx;exact⟨sl,d b _ (f b o e) e1⟩
 . obtain⟨o',e1⟩:=un.there b o e hx;exact⟨o',d b o' (f b o e) e1⟩
 . intro b o e;have nb:b≠s3.heap.objs.size:=fun z=>by rw[z,a]at e;cases e
   refine(I5.hok b o e).stay (fun c v g r=>d c v ?_ r) (fun _ r=>r) fun _ _ r=>r;rcases g with z|z
   . rw[z];exact nb
   . intro y;rw[y,a]at z;cases z
 . obtain⟨l,j,g2,k,h,i⟩:=f3 b hb;exact⟨k,j,h,i⟩
theorem ig{Q:VK}(I3:Inv X pins σ H3 s3)(f3:∀b∈fp,FpOk X pins H3 b)(I5:Inv (XC X scope NC s3.heap.objs.size s3 H3 fp (X.pn++pins)) [] σ5 H5 s5)(r:RelV v u)(q5:Q v H5):
 compPost (model X.prog X.w) X.A X.xe none (EP X pins σ Q) u s3.heap.objs.size (.ok .next) s5:=by
 obtain⟨d,c,_⟩:=id I5.loc;exact⟨d,c,fun e a=>⟨v,H5,I3.out f3 I5 a,r,q5⟩⟩
theorem dP{g:TG}{s2:Shared}{o0:Obj}{b0:HO}{a0:α}{W:Nat->Nat->α->Hp->Prop}{Zs:Nat->Nat->α->St->Hp->Prop}{Qt:Hp->Prop}{R:Addr->Result->Shared->Prop}{M:Env->Sem Unit}(hcalm:X.calm=true)(hg:∀C s H fp pn,PG (XC X scope NC C s H fp pn) target g)(ht:∀C s H fp pn,PTs (XC X scope NC C s H fp pn) ifs tc)(hl:mp.length=NC.length)(hm:fP X.N NC mp scope.names X.env.scope.names=true)(hc:bL scope.names X.env.cells=true)(hk:scope.kind= .function)(hnc:∀y∈scope.names,y.2≠ .cell)(I2:Inv X pins σ H2 s2)(T:Turn X.prog X.w X.K target J fp it tn)(st2:tn 0 s2.heap)(f2:∀b∈fp,FpOk X pins H2 b)(ho:ObjOk X.prog X.w (upd H2 s2.heap.objs.size b0) (s2.heap.push o0) s2.heap.objs.size b0)(w0:W 0 m0 a0 (upd H2 s2.heap.objs.size b0))(turn:∀i m acc H2,W i m acc H2->(J.stop i H2/\Qt H2)\/(J.go i H2/\∀x H3,J.yld i H2 x H3->g x (subS mp σ) H3 fun σ4 H4=>Ext (subS mp σ) σ4/\tc σ4 H4 fun b H5=>if b=true then Zs i m acc σ4 H5 else∃m',m' < m/\W (i+1) m' acc H5))(ct:∀env,CT e target iter ifs (.ref it) (.ref s2.heap.objs.size) env (M env))(el:∀C s H pn pins' s9 σ4 H4 i m acc,Inv (XC X scope NC C s H fp pn) pins' σ4 H4 s9->Zs i m acc σ4 H4->wpAny (model X.prog X.w) X.A (M (XC X scope NC C s H fp pn).env) (fun _ s'=>∃acc' m' H',Inv (XC X scope NC C s H fp pn) pins' σ4 H' s'/\m' < m/\W (i+1) m' acc' H') (fun _ _=>False) s9)(fin:∀s3 H3,Inv X pins σ H3 s3->(∀b∈fp,FpOk X pins H3 b)->∀s5 σ5 H5,Inv (XC X scope NC s3.heap.objs.size s3 H3 fp (X.pn++pins)) [] σ5 H5 s5->Qt H5->R s3.heap.objs.size (.ok .next) s5):
 wpAny (model X.prog X.w) X.A (newFunctionEnv scope X.env.globals (cN scope.names X.env.cells []) [] X.env.qual none .none (some X.env)) (fun cenv s₄=>tn 0 s₄.heap/\codeAny (model X.prog X.w) X.A (.compLoop e 0 (.ref it) (.ref s2.heap.objs.size) {cenv with scope:=relabel scope X.env}) (R cenv.locals) s₄) X.xe {s2 with heap:=s2.heap.push o0}:=by
 have I3:Inv X pins σ (upd H2 s2.heap.objs.size b0) {s2 with heap:=s2.heap.push o0}:=I2.laid (t':=s2.toks) (fun b u e=>Heap.get?_push_of_some _ e) (yV _) ho;have c:tn 0 (s2.heap.push o0):=T.keep 0 _ _ st2 fun b _ o e=>Heap.get?_push_of_some _ e
 have f3:∀b∈fp,FpOk X pins (upd H2 s2.heap.objs.size b0) b:=fun b hb=>by
  refine hZq fun q_ e_=>?_;obtain⟨g0,g1⟩:=f2 b hb;obtain⟨o,e,_⟩:=T.obj 0 _ st2 b hb;subst e_;exact⟨by rw[ae (zo (Heap.lt_size e))];exact g0,g1⟩
 generalize s2.heap.objs.size=D at*
 replace c:tn 0 ({s2 with heap:=s2.heap.push o0}:Shared).heap:=c
 generalize ({s2 with heap:=s2.heap.push o0}:Shared)=s3 at*;generalize upd H2 D b0=H3 at*
 have j:∀b∈fp,b < s3.heap.objs.size:=fun b hb=>by
  obtain⟨o,e,_⟩:=T.obj 0 _ c b hb;exact Heap.lt_size e
 refine wpAny_newFunctionEnv (around:=some X.env) hnc (by intro y hy;cases hy) (fun h4 aA ai=>?_) hk
 have z:∀b o,s3.heap.get? b=some o->h4.get? b=some o:=fun b o e=>ai.extBut b o (zo (Heap.lt_size e)) (Heap.get?_push_of_some _ e);have I4:=I3.block (tk:=s3.toks+([]:List (Str×Value)).length) f3 j hk hnc hc hl hm z aA;have au:tn 0 h4:=T.keep 0 _ _ c fun b _ o e=>z b o e
 refine⟨au,kW (fun n s'=>∃i acc σ' H',Inv (XC X scope NC s3.heap.objs.size s3 H3 fp (X.pn++pins)) [] σ' H' s'/\Ext (subS mp σ) σ'/\tn i s'.heap/\(∀b∈fp,H' b=none)/\W i n acc H') (ct _) ?_ m0
  (O9 0 a0 (subS mp σ) H3 I4 (fun _ _ e=>e) au (fun b hb=>(f3 b hb).1) w0)⟩
 intro n s5 z_;refine hZq fun q_ e_=>?_;obtain⟨i,acc,σ5,H5,I5,hσ,k,l,w5⟩:=z_;subst e_;have ao:Inv (XC X scope NC s3.heap.objs.size s3 H3 fp (X.pn++pins)) [] (subS mp σ) H5 s5:=I5.weak (by rw[I5.len];unfold subS;rw[yR];exact hl) hσ
 have h:∀ {H':Hp},(∀b∈fp,H' b=none)->∀b∈fp,FpOk (XC X scope NC s3.heap.objs.size s3 H3 fp (X.pn++pins)) [] H' b:=fun hn b hb=>by
  refine hZq fun q_ e_=>?_;obtain⟨g0,g1,g2,g3,g4,g5⟩:=f3 b hb;subst e_;exact⟨hn b hb,zo (j b hb),I4.ok.exfs b hb, .inl hb,(I4.ok.exf b hb).2,fun p hp=>g5 p (by simpa using hp)⟩
 rcases turn i n acc H5 w5 with⟨stop,q⟩|⟨go,step⟩
 . refine thn (T.done (XC X scope NC s3.heap.objs.size s3 H3 fp (X.pn++pins)) rfl rfl rfl hcalm i [] s5 _ H5 (fun _ _=>False) ao (h l) k stop) fun r s6 ⟨hr,I6⟩=>?_;subst hr;exact fin s3 H3 I3 f3 s6 _ H5 I6 q
 . refine thn (T.item (XC X scope NC s3.heap.objs.size s3 H3 fp (X.pn++pins)) rfl rfl rfl hcalm i [] s5 _ H5 (fun _ _=>False) ao (h l) k go) fun r s6 ⟨u,hr,h6⟩=>?_;subst hr;refine thn h6 fun _ s7 ⟨x,H7,I7,r7,y7,f,aB⟩=>?_;refine thn (hg _ _ _ _ _ _ s7 _ H7 x u _ (I7.pinned (h aB) (T.obj _ _ f)) r7 (step x H7 y7)) fun _ s8 ⟨σ8,H8,I8,v,q8⟩=>?_;refine thn (ht _ _ _ _ _ _ s8 σ8 H8 _ I8 q8) fun ok s9 ⟨H9,I9,q9⟩=>?_
   have again:∀ {H':Hp} {s':Shared} {acc':α} {m':Nat},Inv (XC X scope NC s3.heap.objs.size s3 H3 fp (X.pn++pins)) ([]++gX fp s7.heap) σ8 H' s'->m' < n->W (i+1) m' acc' H'->
    ∃m,m < n/\∃i acc σ' H',Inv (XC X scope NC s3.heap.objs.size s3 H3 fp (X.pn++pins)) [] σ' H' s'/\Ext (subS mp σ) σ'/\tn i s'.heap/\(∀b∈fp,H' b=none)/\W i m acc H':=by
    intro H' s' acc' m' I' a w';have t:∀b∈fp,∀o,s7.heap.get? b=some o->_:=fun b hb o e=>I'.pin (b,o) (zy _ (zy _ (eD hb e)));refine U2 m' a (i+1) acc' σ8 H' I'.unpinned v (T.keep _ _ _ f fun b hb o e=>(t b hb o e).1) (fun b hb=>?_) w';obtain⟨o,e,d⟩:=T.obj _ _ f b hb;exact(t b hb o e).2.1
   cases ok with
   |false=>
    rw[if_neg zt]at q9 ⊢;obtain⟨m',a,w'⟩:=q9;exact again I9 a w'
   |true=>
    rw[if_pos rfl]at q9 ⊢;exact thn (el _ _ _ _ _ _ _ _ _ _ _ I9 q9) fun _ s' ⟨acc',m',H',I',a,w'⟩=>again I' a w'
theorem oo{W:Nat->Nat->List V->Hp->Prop}(he:∀C s H fp pn,PE (XC X scope NC C s H fp pn) elt te)(C:Addr)(s:Shared)(H:Hp)(pn pins':List (Addr×Obj))(s9:Shared)(σ4:St)(H4:Hp)(i m:Nat)(acc:List V)(I:Inv (XC X scope NC C s H fp pn) pins' σ4 H4 s9)(z:te σ4 H4 fun v H6=>H6 D=some (.lst acc)/\acc.length < sizeLine/\∃m',m' < m/\W (i+1) m' (acc++ [v]) (upd H6 D (.lst (acc++ [v])))):
 wpAny (model X.prog X.w) X.A (do let _<-call (.builtin "list.append") [.ref D,<-eval elt (XC X scope NC C s H fp pn).env]) (fun _ s'=>∃acc' m' H',Inv (XC X scope NC C s H fp pn) pins' σ4 H' s'/\m' < m/\W (i+1) m' acc' H') (fun _ _=>False) s9:=
 wpAny_bind (thn (he _ _ _ _ _ _ s9 σ4 H4 _ I z) fun v j ⟨y,a,c,g,b,hz,m',d,w'⟩=>
  wpAny_bind (thn (bu (X:=XC X scope NC C s H fp pn) _ j σ4 a (.ref D) [y] (.ref D) [v] (fun _ H'=>H'=upd a D (.lst (acc++ [y]))) c rfl (.cons g .nil) (U4 D acc y rfl rfl b hz rfl)) fun _ k ⟨_,h,e,_,f⟩=>
   wpAny_pure (J2 _ m' h e d (f▸w'))))
theorem aY{pos:Pos}{g:TG}(hcalm:X.calm=true)(hi:PI X target iter wi)(hg:∀C s H fp pn,PG (XC X scope NC C s H fp pn) target g)(ht:∀C s H fp pn,PTs (XC X scope NC C s H fp pn) ifs tc)(he:∀C s H fp pn,PE (XC X scope NC C s H fp pn) elt te)(hl:mp.length=NC.length:=by rfl)(hm:fP X.N NC mp scope.names X.env.scope.names=true:=by rfl)(hc:bL scope.names X.env.cells=true:=by rfl)(hk:scope.kind= .function:=by rfl)(hnc:∀y∈scope.names,y.2≠ .cell:=by decide +kernel)(hnm:∀y∈scope.names,y.2= .local->scope.names.lookup y.1=some .local:=by decide +kernel)(hs:∀x,foldedSetIterable iter X.env x=pure x:=by intro _;rfl):
 PE X (.ListComp elt [⟨target,iter,ifs,0⟩] scope pos) (bU mp wi g tc te):=by
 intro pins s σ H Q I h;rw[eval_ListComp];refine wpAny_comprehension_free (use:=none) rfl hs (gE hc) hk hnm (thn (hi pins s σ H _ I h) fun v s1 h1=>thn h1 fun j b h2=>?_);obtain⟨it,fp,tn,J,H2,e,d,T,a,l,W⟩:=h2;subst e;refine wpAny_newObj_type ?_ (by show 0<=sizeLine;decide)
 obtain⟨W,⟨o,k⟩,turn⟩:=W _ (d.hok.fresh (yV _))
 exact wpAny_mono (dP (e:= .ListComp elt [⟨target,iter,ifs,0⟩] scope pos) (b0:= .lst []) (R:=compPost (model X.prog X.w) X.A X.xe none (EP X pins σ Q) (.ref b.heap.objs.size)) (M:=fun env=>do let _<-call (.builtin "list.append") [.ref b.heap.objs.size,<-eval elt env]) hcalm hg ht hl hm hc hk hnc d T a l ⟨by show 0<=sizeLine;decide,U3 ([]) 0 (.nil) (Heap.get?_push_size _ rfl)⟩ k turn (fun _=>⟨rfl,fun _ _=>rfl,fun _=>rfl⟩) (oo he) fun s3 H3 f i s5 σ5 H5 m q=>ig (v:= .ref b.heap.objs.size) f i m rfl q)
  (fun c n ⟨st,loop⟩=>codeAny_compStart_list loop (T.self _ 0 _ _ _ st loop)) fun _ _ e=>e
theorem oB{b:Addr}(hn:h.Ns a m)(sb:Heap.SameBut b h h')(ne:a≠b):h'.Ns a m:=by
 obtain⟨o,es,ep,ho,r⟩:=hn;exact⟨o,es,ep,(sb.2 a ne).trans ho,r⟩
theorem cK{pos spos:Pos}{g:TG}{px:Pos}(hcalm:X.calm=true)(hN:X.N.Nodup)(hix:X.N[i]?=some x)(hx:X.env.scope.names.lookup x=some .local)(hsw:swapsWith (.ListComp elt [⟨target,iter,ifs,0⟩] scope pos) (some (.Name x px)) spos.line X.env=pure true)(hi:PI X target iter wi)(hg:∀C s H fp pn,PG (XC X scope NC C s H fp pn) target g)(ht:∀C s H fp pn,PTs (XC X scope NC C s H fp pn) ifs tc)(he:∀C s H fp pn,PE (XC X scope NC C s H fp pn) elt te)(hl:mp.length=NC.length:=by rfl)(hm:fP X.N NC mp scope.names X.env.scope.names=true:=by rfl)(hc:bL scope.names X.env.cells=true:=by rfl)(hk:scope.kind= .function:=by rfl)(hnc:∀y∈scope.names,y.2≠ .cell:=by decide +kernel)(hnm:∀y∈scope.names,y.2= .local->scope.names.lookup y.1=some .local:=by decide +kernel)(hs:∀x,foldedSetIterable iter X.env x=pure x:=by intro _;rfl):
 PS X (.Assign [.Name x px] (.ListComp elt [⟨target,iter,ifs,0⟩] scope pos) spos) (tAsg (bU mp wi g tc te) (aM i)):=by
 intro pins s σ H Z I h;rw[exec_Assign_Name_used _ _ _ _ hsw];refine wpAny_bind (wpAny_standAt (wpAny_bind ?_));show wpAny _ _ (do let _<-comprehension (.ListComp elt [⟨target,iter,ifs,0⟩] scope pos) scope X.env _ (newList []) false (eval iter X.env) (some (assign (.Name x px) X.env))) _ _ s
 refine wpAny_bind (wpAny_mono (wpAny_comprehension_free (use:=some (assign (.Name x px) X.env)) (Q:=fun _ s'=>SP X pins Z .next s') (E:=X.xe) rfl hs (gE hc) hk hnm
  (thn (hi pins s σ H _ I h) fun v s1 h1=>thn h1 fun a2 s2 h2=>?_)) (fun _ s' q=>wpAny_pure (wpAny_pure q)) fun _ _ e=>e)
 refine hZq fun q_ e_=>?_;obtain⟨it,fp,tn,J,H2,e,I2,T,au,f2,W⟩:=h2;subst e_;subst e;refine wpAny_newObj_type ?_ (by show 0<=sizeLine;decide)
 refine hZq fun q_ e_=>?_;obtain⟨W,⟨m0,w0⟩,turn⟩:=W _ (I2.hok.fresh (yV _));subst e_
 refine wpAny_mono (dP (e:= .ListComp elt [⟨target,iter,ifs,0⟩] scope pos) (b0:= .lst []) (R:=compPost (model X.prog X.w) X.A X.xe (some (assign (.Name x px) X.env)) (fun _ s'=>SP X pins Z .next s') (.ref s2.heap.objs.size)) (M:=fun env=>do let _<-call (.builtin "list.append") [.ref s2.heap.objs.size,<-eval elt env]) hcalm hg ht hl hm hc hk hnc I2 T au f2 ⟨by show 0<=sizeLine;decide,U3 ([]) 0 (.nil) (Heap.get?_push_size _ rfl)⟩ w0 turn (fun _=>⟨rfl,fun _ _=>rfl,fun _=>rfl⟩) (oo he) fun s3 H3 I3 f3 s5 σ5 H5 I5 q5=>?_)
  (fun a1 s4 ⟨st,loop⟩=>codeAny_compStart_list loop (T.self _ 0 _ _ _ st loop)) fun _ _ e=>e
 generalize s2.heap.objs.size=D at*;have nC:∀b o,s3.heap.get? b=some o->b≠s3.heap.objs.size:=fun b o e=>zo (Heap.lt_size e);obtain⟨m5,ao,_⟩:=id I5.loc;have I6:=I3.out f3 I5 (.refl ..);have lC:X.env.locals≠s3.heap.objs.size:=zo I3.lt;show wpAny _ _ (assign (.Name x px) X.env (.ref D)) _ _ _;refine wpAny_assign_Name (iG (X:=X) (v:= .ref D) I6 hN hix (.inl hx) rfl (fun s7 d ai=>?_) (.inr hx));obtain⟨a,a0,ha⟩:=ai
 have aC:s3.heap.objs.size≠a:=by
  rcases ha with z|z
  . rw[z];exact Ne.symm lC
  . refine hZq fun q_ e_=>?_;obtain⟨v,oc,q1,_⟩:=I3.cell x a z;subst e_;exact Ne.symm (nC a oc q1)
 refine Y3 m5 (oB ao a0 aC) (fun h8 m=>U3 (σ.set i (some (.ref D))) H5 ?_ q5);have l:H5 s3.heap.objs.size=none:=I5.free;have f:∀b o,b≠s3.heap.objs.size->s7.heap.get? b=some o->h8.get? b=some o:=fun b o hb e=>m.extBut b o hb e;have k:∀b o,X.s₀.heap.get? b=some o->b≠s3.heap.objs.size:=fun b o e=>zo (ze (Heap.lt_size e) I3.sz);refine⟨d.ok,d.os,d.bare,⟨fun b o e n hb hx=>f b o (k b o e) (d.base.keep b o e n hb hx),fun b o e n hb hx=>?_,d.base.free,fun b o e hx=>?_,d.base.tups,d.base.frzs,d.base.tbls⟩,?_,fun y c e=>?_,d.free,d.freeC,fun p hp=>?_,?_,d.len⟩
 . obtain⟨sl,e1⟩:=d.base.slot b o e n hb hx;exact⟨sl,f b _ (k b o e) e1⟩
 . obtain⟨o',e1⟩:=d.base.there b o e hx;exact⟨o',f b o' (k b o e) e1⟩
 . obtain⟨m7,aB,aT⟩:=d.loc
   have t:∀y c,X.env.cells.lookup y=some c->c≠s3.heap.objs.size:=fun y c e=>by
    refine hZq fun q_ e_=>?_;obtain⟨v,oc,q1,_⟩:=I3.cell y c e;subst e_;exact nC c oc q1
   refine Y3 m7 (oB aB m lC) (fun j y v e1 e2 e3=>?_);obtain⟨u,ru,lk⟩:=aT j y v e1 e2 e3;refine Y3 u ru ?_;rcases lk with lk|⟨k1,c,k2,k3⟩
   . exact .inl lk
   . exact .inr ⟨k1,Y3 c k2 (k3.sameBut m (t y c k2))⟩
 . refine hZq fun q_ e_=>?_;obtain⟨w',z⟩:=d.cell y c e;obtain⟨v,oc,q1,_⟩:=I3.cell y c e;subst e_;exact⟨w',z.sameBut m (nC c oc q1)⟩
 . refine hZq fun q_ e_=>?_;obtain⟨e,n1,n2,n3,n4⟩:=d.pin p hp;obtain⟨e3,_⟩:=I3.pin p hp;subst e_;exact⟨f _ _ (nC _ _ e3) e,n1,n2,n3,n4⟩
 . intro b o e;have nb:b≠s3.heap.objs.size:=fun z=>by rw[z,l]at e;cases e
   refine(d.hok b o e).stay (fun c v aA r=>f c v ?_ r) (fun _ r=>r) fun _ _ r=>r;rcases aA with z|z
   . rw[z];exact nb
   . intro y;rw[y,l]at z;cases z
section
variable{κ:Type}[DecidableEq κ]
noncomputable def valV(kvs:List (κ×V))(k:κ):Option V:=(kvs.find? fun kv=>decide (kv.1=k)).map (·.2)
noncomputable def putK(kvs:List (κ×V))(k:κ)(v:V):List (κ×V):=
 if (kvs.any fun kv=>decide (kv.1=k))=true then kvs.map (fun kv=>if kv.1=k then(kv.1,v)else kv)else kvs++ [(k,v)]
theorem bE{p:κ×V}{r:List (κ×V)}{k:κ}(e:p.1=k):valV (p::r) k=some p.2:=by simp[valV,Ai,e]
theorem bG{p:κ×V}{r:List (κ×V)}{k:κ}(e:¬p.1=k):valV (p::r) k=valV r k:=by simp[valV,Ai,e]
theorem dk(k:κ):∀kvs:List (κ×V),(kvs.any fun kv=>decide (kv.1=k))=(valV kvs k).isSome
 | []=>rfl
 |p::r=>by
  rw[List.any_cons];by_cases e:p.1=k
  . simp only[bE e,decide_eq_true e,Bool.true_or,Option.isSome_some]
  . rw[bG e,decide_eq_false e,Bool.false_or];exact dk k r
theorem jV(k j:κ)(y:V):∀kvs:List (κ×V),valV (kvs.map fun kv=>if kv.1=k then(kv.1,y)else kv) j=(valV kvs j).map fun x=>if j=k then y else x
 | []=>rfl
 |p::r=>by
  have a:=jV k j y r;rw[zh];by_cases h:p.1=k
  . rw[if_pos h];by_cases e:p.1=j
    . rw[bE (p:=(p.1,y)) e,bE e,Option.map_some,if_pos (e.symm.trans h)]
    . rw[bG (p:=(p.1,y)) e,bG e,a]
  . rw[if_neg h];by_cases e:p.1=j
    . rw[bE (p:=p) e,bE e,Option.map_some,if_neg (fun z=>h (e.trans z))]
    . rw[bG (p:=p) e,bG e,a]
theorem iF(k j:κ)(y:V):∀kvs:List (κ×V),valV kvs k=none->valV (kvs++ [(k,y)]) j=if j=k then some y else valV kvs j
 | [],_=>by
  by_cases e:k=j
  . rw[if_pos e.symm];exact bE (p:=(k,y)) e
  . rw[if_neg (fun z=>e z.symm)];exact bG (p:=(k,y)) e
 |p::r,hn=>by
  rw[zK];have hk:¬p.1=k:=fun z=>by rw[bE z]at hn;cases hn
  rw[bG hk]at hn;have a:=iF k j y r hn;by_cases e:p.1=j
  . rw[bE e,bE e,if_neg (fun z=>hk (e.trans z))]
  . rw[bG e,bG e,a]
theorem pN(kvs:List (κ×V))(k j:κ)(y:V):valV (putK kvs k y) j=if j=k then some y else valV kvs j:=by
 unfold putK;by_cases a:(kvs.any fun kv=>decide (kv.1=k))=true
 . rw[if_pos a,jV];rw[dk]at a;by_cases e:j=k
   . obtain⟨x,hx⟩:=Option.isSome_iff_exists.mp a;rw[if_pos e,e,hx,Option.map_some,if_pos rfl]
   . rw[if_neg e]
     cases valV kvs j with
     |none=>rfl
     |some x=>rw[Option.map_some,if_neg e]
 . rw[if_neg a];refine iF k j y kvs ?_;rw[dk]at a
   cases q:valV kvs k with
   |none=>rfl
   |some x=>rw[q]at a;exact(a rfl).elim
theorem fT(kvs:List (κ×V))(k:κ)(v:V):(putK kvs k v).length<=kvs.length+1:=by
 unfold putK;split
 . rw[yR];omega
 . rw[zj,zg,List.length_nil];omega
theorem rH{kvs:List (κ×V)}{k:κ}(v:V)(h:valV kvs k=none):putK kvs k v=kvs++ [(k,v)]:=by
 unfold putK;rw[dk,h];exact if_neg (by decide)
theorem RelO.isSome_eq{o:Option V}{u:Option Value}(r:RelO o u):o.isSome=u.isSome:=by
 cases o with
 |none=>cases u with
  |none=>rfl
  |some _=>exact(show False from r).elim
 |some _=>cases u with
  |none=>exact(show False from r).elim
  |some _=>rfl
theorem RelO.getD{o:Option V}{u:Option Value}{d:V}{d':Value}(r:RelO o u)(rd:RelV d d'):RelV (o.getD d) (u.getD d'):=by
 cases o with
 |none=>cases u with
  |none=>exact rd
  |some _=>exact(show False from r).elim
 |some _=>cases u with
  |none=>exact(show False from r).elim
  |some _=>exact r
theorem KV.val{kvs:List (κ×V)}{vs:List (κ×Value)}(r:KV kvs vs)(k:κ):RelO (valV kvs k) (valueAt vs k):=by
 unfold KV at r
 induction r with
 |nil=>exact True.intro
 | @cons p q ps qs h t a=>
  obtain⟨h1,h2⟩:=h;by_cases e:p.1=k
  . have e':q.1=k:=h1.symm.trans e;have b:valueAt (q::qs) k=some q.2:=by simp[valueAt,Ai,e']
    rw[bE e,b];exact h2
  . have e':¬q.1=k:=fun z=>e (h1.trans z);have b:valueAt (q::qs) k=valueAt qs k:=by simp[valueAt,Ai,e']
    rw[bG e,b];exact a
theorem KV.any{kvs:List (κ×V)}{vs:List (κ×Value)}(r:KV kvs vs)(k:κ):(kvs.any fun kv=>decide (kv.1=k))=vs.any fun kv=>decide (kv.1=k):=by
 unfold KV at r
 induction r with
 |nil=>rfl
 |cons h t a=>rw[List.any_cons,List.any_cons,a,h.1]
theorem KV.repl{kvs:List (κ×V)}{vs:List (κ×Value)}(r:KV kvs vs)(k:κ){y:V}{u:Value}(ry:RelV y u):
 KV (kvs.map fun kv=>if kv.1=k then(kv.1,y)else kv) (vs.map fun kv=>if kv.1=k then(kv.1,u)else kv):=by
 unfold KV at r ⊢
 induction r with
 |nil=>exact .nil
 | @cons p q ps qs h t a=>
  rw[zh,zh];refine .cons ?_ a;obtain⟨h1,h2⟩:=h;by_cases e:p.1=k
  . rw[if_pos e,if_pos (h1.symm.trans e)];exact⟨h1,ry⟩
  . rw[if_neg e,if_neg (fun z=>e (h1.trans z))];exact⟨h1,h2⟩
theorem KV.put{kvs:List (κ×V)}{vs:List (κ×Value)}(r:KV kvs vs)(k:κ){y:V}{u:Value}(ry:RelV y u):KV (putK kvs k y) (stored vs k u):=by
 unfold putK stored;rw[r.any k];by_cases e:(vs.any fun kv=>decide (kv.1=k))=true
 . rw[if_pos e,if_pos e];exact r.repl k ry
 . rw[if_neg e,if_neg e];exact Paired.snoc r ⟨rfl,ry⟩
theorem KV.length{kvs:List (κ×V)}{vs:List (κ×Value)}(r:KV kvs vs):kvs.length=vs.length:=Paired.length r
end
theorem o9{k:Key}(r:RelV (kV k) u):(aO P w).is k u=true:=by
 cases k with
 |inl i=>obtain⟨t,e⟩:=(show∃t,u=Value.int i t from r);subst e;exact ky P w i t
 |inr x=>obtain⟨t,e⟩:=(show∃t,u=Value.str x t from r);subst e;exact ku P w x t
theorem iS{P:Program}{w:World}:∀ {ks:List Key} {us:List Value},Vals (ks.map kV) us->ItemsAre (aO P w) ks us
 | [],_,r=>by rw[List.map_nil]at r;cases r;exact .nil
 |k::ks,_,r=>by
  rw[zh]at r
  cases r with
  |cons h t=>exact .cons (o9 h) (iS t)
abbrev KT(H:Hp):List (List Key×V)->List (List Key×Addr×Value)->Prop:=Paired fun p q=>p.1=q.1/\H q.2.1=some (.tup (p.1.map kV))/\RelV p.2 q.2.2
theorem KT.val{kvs:List (List Key×V)}{xs:List (List Key×Addr×Value)}(r:KT H kvs xs)(k:List Key):RelO (valV kvs k) ((atKey xs k).map (·.2)):=by
 induction r with
 |nil=>exact True.intro
 | @cons p q ps qs h t a=>
  obtain⟨h1,_,h2⟩:=h;by_cases e:p.1=k
  . have e':q.1=k:=h1.symm.trans e;have b:atKey (q::qs) k=some q.2:=by simp[atKey,Ai,e']
    rw[bE e,b];exact h2
  . have e':¬q.1=k:=fun z=>e (h1.trans z);have b:atKey (q::qs) k=atKey qs k:=by simp[atKey,Ai,e']
    rw[bG e,b];exact a
theorem vE{u:HO}(ok:HOk P w H h)(e:Rd H a u):ObjOk P w H h a u:=e.ok ok
theorem tz(ok:HOk P w H h)(e:Rd H a (.dK kvs)):kvs.length<=sizeLine/\(a==sysModules)=false/\∃vs,KV kvs vs/\h.DictOf (aO P w) a vs:=
 show ObjOk P w H h a (.dK kvs)from vE ok e
theorem oq(ok:HOk P w H h)(e:H a=some (.dK kvs)):kvs.length<=sizeLine/\(a==sysModules)=false/\∃vs,KV kvs vs/\h.DictOf (aO P w) a vs:=tz ok (.inl e)
theorem sN{ks:List Key}(ok:HOk P w H h)(e:H a=some (.tup (ks.map kV))):(tupleKind (aO P w)).is h ks a:=by
 obtain⟨_,its,r,o,h1,h2,n,h3⟩:=(show ObjOk P w H h a (.tup (ks.map kV))from ok a _ e);exact⟨o,its.toArray,n,h1,h2,h3,by simpa using iS r⟩
theorem vK{kvs:List (List Key×V)}(ok:HOk P w H h)(e:Rd H a (.dT kvs)):kvs.length<=sizeLine/\(a==sysModules)=false/\
 ∃xs,KT H kvs xs/\h.DictOfH (tupleKind (aO P w)) a xs:=by
 obtain⟨z,y,xs,r,o,es,ep,h1,h2,h3,d,b⟩:=(show ObjOk P w H h a (.dT kvs)from vE ok e);refine⟨z,y,J4 xs r o es ep h1 ⟨h2,h3,d,fun x hx=>?_,b⟩⟩
 have all:∀ {l:List (List Key×V)} {m:List (List Key×Addr×Value)},KT H l m->∀x∈m,(tupleKind (aO P w)).is h x.1 x.2.1:=by
  intro l m q
  induction q with
  |nil=>intro x hx;exact nomatch hx
  | @cons p q ps qs hq t c=>
   intro x hx;rcases yY.mp hx with e|hx
   . subst e;exact sN ok (by rw[<-hq.1];exact hq.2.1)
   . exact c x hx
 exact all r x hx
def DGet(H:Hp)(a:Addr)(y:V)(r:Option V):Prop:=
 (∃kvs k,Rd H a (.dK kvs)/\y=kV k/\r=valV kvs k)\/∃kvs k b,Rd H a (.dT kvs)/\y= .ref b/\H b=some (.tup (k.map kV))/\r=valV kvs k
theorem DGet.k{H:Hp}{a:Addr}{kvs:List (Key×V)}{k:Key}(e:H a=some (.dK kvs)):DGet H a (kV k) (valV kvs k):= .inl ⟨kvs,k, .inl e,rfl,rfl⟩
theorem Inv.big(I:Inv X pins σ H s):sysModules < s.heap.objs.size:=by
 have h:mainGlobals < s.heap.objs.size:=(I.mod.glob.keeps I.bk).lt;exact Nat.lt_trans (by decide) h
theorem gA{ob:HO}(I:Inv X pins σ H s)(mu:Mut (H a))(hs:Heap.SameBut a s.heap h')(he:∃q,h'.get? a=some q)(new:ObjOk X.prog X.w (upd H a ob) h' a ob):
 Inv X pins σ (upd H a ob) {s with heap:=h',toks:=t'}:=
 I.write (x:=a) (e:=a) mu (.inl rfl) (fun b q hb z=>(hs.2 b hb).trans z) he new
theorem tD{vs:List (Key×Value)}(z:kvs.length<=sizeLine)(hd:(a==sysModules)=false)(rel:KV kvs vs)(dd:h'.DictOf (aO P w) a vs):
 ObjOk P w H' h' a (.dK kvs):=⟨z,hd,vs,rel,dd⟩
def NoSl(i:Expr):Prop:=∀ov iv,subscripted i false ov iv=operate [ov,iv] (getItem ov iv)
theorem ug{slice:Expr}{pos:Pos}{id:String}(hl:typeLookup (.type T) "__getitem__"=pure (some (.builtin id)))(hs:NoSl slice)(h:wpAny (model prog w) A (eval value env) (fun o s₁=>wpAny (model prog w) A (eval slice env) (fun i s₂=>s₂.TypeIs o T/\wpAny (model prog w) A (getItem o i) Q E s₂) E s₁) E s):
 wpAny (model prog w) A (eval (.Subscript value slice pos) env) Q E s:=by
 refine Subscript_ (wpAny_mono h (fun o s₁ d=>wpAny_mono d (fun i s₂ a=>?_) fun _ _ x=>x) fun _ _ x=>x);obtain⟨c,a⟩:=a;unfold subscriptTail;refine wpAny_bind ?_;rw[getitemInPython_of_ne c.not_modules];refine wpAny_bind (wpAny_specialOf c hl ?_)
 have fin:wpAny (model prog w) A (subscripted slice false o i) (fun r b=>wpAny (model prog w) A (letTemporaryGo value o r >>=fun _=>pure r) Q E b) E s₂:=by
  rw[hs o i];exact wpAny_operating (wpAny_mono a (fun r b e=>wpAny_bind (wpAny_letTemporaryGo (wpAny_pure e))) fun _ _ x=>x)
 first
  |exact wpAny_pure (wpAny_bind fin)
  |exact wpAny_bind (wpAny_pure (wpAny_bind fin))
  |exact wpAny_bind fin
theorem kQ(h:Heap)(hb:sysModules < h.objs.size):ObjOk P w H (h.push {cls:= .type "dict",data:= .dict #[]}) h.objs.size (.dK []):=
 ⟨zc _,beq_eq_false_iff_ne.mpr (Ne.symm (zo hb)),[], .nil,Heap.DictOf.new h⟩
def vT:TE:=fun _ H Q=>∀p,H p=none->Q (.ref p) (upd H p (.dK []))
theorem rV{pos:Pos}:PE X (.Dict [] [] pos) vT:=fun pins s σ H Q I h=>
 wpAny_Dict_empty ⟨.ref s.heap.objs.size,_,I.laid (a:=s.heap.objs.size) (o:= .dK []) (t':=s.toks) (fun _ _ q=>Heap.get?_push_of_some _ q) (yV _) (kQ s.heap I.big),rfl,h _ (I.hok.fresh (yV _))⟩
structure M2 (X:Cx) (o:Expr) (m:Str) (apos:Pos) (e f:Expr) (cpos:Pos):Prop where
 base:attributeBase o m X.env (eval o X.env)=eval o X.env
 few:((backTo cpos (starEach [e,f] X.env)).all (fun x=> !x.1)&& (backToKw cpos (keywordEach [] X.env)).all (fun x=>x.1.isSome)
  &&decide (([e,f]:List Expr).length+([]:List Keyword).length+(if ([]:List Keyword).isEmpty then 0 else 1) < 30))=true
 line:(apos.endLine==cpos.line)=true
 trees:backTo cpos (starEach [e,f] X.env)= [(false,eval e X.env),(false,eval f X.env)]
def IsD(H:Hp)(a:Addr):Prop:=(∃kvs,Rd H a (.dK kvs))\/∃kvs,Rd H a (.dT kvs)
theorem xz(I:Inv X pins σ H s)(d:IsD H a):
 s.TypeIs (.ref a) "dict"/\(∀b,Value.ref a= .ref b->∃ob,s.heap.get? b=some ob/\ob.dict=none)/\(a==sysModules)=false:=by
 rcases d with⟨kvs,e⟩|⟨kvs,e⟩
 . obtain⟨_,hd,vs,_,dd⟩:=tz I.hok e;refine⟨dd.typeIs,fun b q=>?_,hd⟩;cases q;obtain⟨ob,_,_,h1,h2,_⟩:=dd;exact Y3 ob h1 h2.2.1
 . obtain⟨_,hd,xs,_,dd⟩:=vK I.hok e;refine⟨dd.typeIs,fun b q=>?_,hd⟩;cases q;obtain⟨ob,_,_,h1,h2,_⟩:=dd;exact Y3 ob h1 h2.2.1
theorem xJ{y d:V}{r:Value}(hu:A.units+1 < cLine)(I:Inv X pins σ H s)(g:DGet H a y o)(ry:RelV y u)(rd:RelV d r)(h:∀w' s',Inv X pins σ H s'->RelV (o.getD d) w'->Q w' s'):
 wpAny (model X.prog X.w) A (call (.builtin "dict.get") [.ref a,u,r]) Q E s:=by
 rcases g with⟨kvs,k,e,f,l⟩|⟨kvs,k,b,e,f,i,l⟩
 . subst f;obtain⟨z,hd,vs,c,dd⟩:=tz I.hok e;refine call_meetsIn PySem.F.slot_dict_get dd.typeIs PySem.F.entry_dict_get (PySem.F.args_dict_get_3 _ _ _) (meets_dict_get_default (aO X.prog X.w) a (o9 ry) hd r) (Y3 _ dd.mapOf (h _ _ (I.tok _) ?_));rw[l];exact(c.val k).getD rd
 . subst f;cases (show u=Value.ref b from ry);obtain⟨z,hd,xs,c,dd⟩:=vK I.hok e;refine call_meetsIn PySem.F.slot_dict_get dd.typeIs PySem.F.entry_dict_get (PySem.F.args_dict_get_3 _ _ _) (meetsH_dict_get_default (tupleKind (aO X.prog X.w)) a b hd r) ⟨tupleKind_room_in1 hu,Y5 k xs (sN I.hok i) dd (h _ _ (I.tok _) ?_)⟩;rw[l];exact(c.val k).getD rd
def vU(td ty tx:TE):TE:=fun σ H Q=>td σ H fun x H1=>∃a,x= .ref a/\IsD H1 a/\ty σ H1 fun y H2=>tx σ H2 fun z H3=>∃o,DGet H3 a y o/\Q (o.getD z) H3
theorem rY{o f:Expr}{ty:TE}(hu:X.A.units+1 < cLine)(ho:PE X o td)(he:PE X e ty)(hf:PE X f tx)(m:M2 X o "get" apos e f cpos):PE X (.Call (.Attribute o "get" apos) [e,f] [] cpos) (vU td ty tx):=by
 intro pins s σ H Q I h;refine wpAny_Call_method m.base m.few m.line PySem.F.plainAttrs_dict PySem.F.slot_dict_get PySem.F.type_dict_get (thn (ho pins s σ H _ I h) fun u s1 ⟨x,H1,c,t,a,ex,d,l⟩=>?_);subst ex;obtain rfl:u=Value.ref a:=t;obtain⟨t1,t2,_⟩:=xz c d;refine⟨t1,t2,?_⟩;rw[m.trees]
 refine Calls.callWith_builtin rfl (Calls.evalArgs_plain (Calls.spliced_cons (thn (he pins s1 σ H1 _ c l) fun iv r ⟨y,H2,j,q,n⟩=>
  Calls.spliced_cons (thn (hf pins r σ H2 _ j n) fun fv s3 ⟨z,H3,i,v,ov,g,k⟩=>Calls.spliced_nil ?_))))
 exact xJ hu i g q v fun w' w p b=>Y5 _ H3 p b k
def lz(J:It)(D:Addr)(te:TE)(rest:L2.St)(Q:VK)(H1:Hp):Prop:=
 ∃W:Nat->Nat->List V->Hp->Prop,(∃m,W 0 m [] (upd H1 D (.lst [])))/\∀i m acc H2,W i m acc H2->
  (J.stop i H2/\Q (.ref D) H2)\/
  (J.go i H2/\∀x H3,J.yld i H2 x H3->aM 0 x (none::rest) H3 fun σ4 H4=>Ext (none::rest) σ4/\cY σ4 H4 fun b H5=>if b=true then te σ4 H5 fun v H6=>H6 D=some (.lst acc)/\acc.length < sizeLine/\∃m',m' < m/\W (i+1) m' (acc++ [v]) (upd H6 D (.lst (acc++ [v])))
   else∃m',m' < m/\W (i+1) m' acc H5)
variable{Q:VK}
theorem bJ(e:subS mp σ=none::rest)(h:wi σ H fun J H1=>∀D,H1 D=none->lz J D te rest Q H1):bU mp wi (aM 0) cY te σ H Q:=by
 unfold bU;rw[e];exact h
def CompN(n i:Nat)(D:Addr)(acc:List V)(Pv:Nat->List V->Hp->Prop):VK:=fun v H6=>H6 D=some (.lst acc)/\acc.length < sizeLine/\∃m',m' < n - i/\(m'=n - (i+1)/\i+1<=n/\Pv (i+1) (acc++ [v]) (upd H6 D (.lst (acc++ [v]))))
theorem CompN.mk{H6:Hp}(hi:i < n)(hl:acc.length < sizeLine)(h1:H6 D=some (.lst acc))(h2:Pv (i+1) (acc++ [v]) (upd H6 D (.lst (acc++ [v])))):CompN n i D acc Pv v H6:=
 ⟨h1,hl,n - (i+1),by omega,rfl,hi,h2⟩
theorem jM(n:Nat)(Pv:Nat->List V->Hp->Prop)(h0:Pv 0 [] (upd H1 D (.lst [])))(hgo:∀i acc H,i < n->Pv i acc H->J.go i H)(hs:∀i x acc H H',i < n->Pv i acc H->J.yld i H x H'->te (some x::rest) H' (CompN n i D acc Pv))(hd:∀acc H,Pv n acc H->J.stop n H/\Q (.ref D) H):lz J D te rest Q H1:=by
 refine Y3 (fun i m acc H=>m=n - i/\i<=n/\Pv i acc H) (Y8 n (by simp) (zc _) h0) ?_
 rintro i m acc H ⟨rfl,hi,p⟩;by_cases a:i < n
 . refine .inr ⟨hgo i acc H a p,fun x H' y=>?_⟩;refine⟨ext1,?_⟩;show(if true=true then te (some x::rest) H' (CompN n i D acc Pv)else∃m',m' < n - i/\(m'=n - (i+1)/\i+1<=n/\Pv (i+1) acc H'));exact iteT (hs i x acc H H' a p y)
 . have e:i=n:=by omega
   subst e;exact .inl (hd acc H p)
theorem tL(Pv:Nat->List V->Hp->Prop)(h0:Pv 0 [] (upd H1 D (.lst [])))(hl:∀i acc H,Pv i acc H->SqT K H a xs)(hs:∀i x acc H,i < xs.length->xs[i]?=some x->Pv i acc H->te (some x::rest) H (CompN xs.length i D acc Pv))(hd:∀acc H,Pv xs.length acc H->Q (.ref D) H):lz (Itt K a) D te rest Q H1:=by
 refine jM xs.length Pv h0 (fun i acc H hi p=>⟨xs,xs[i],hl i acc H p,by simp[hi]⟩) (fun i x acc H H' hi p y=>?_) fun acc H p=>⟨⟨xs,hl _ acc H p,yV _⟩,hd acc H p⟩
 obtain⟨e,y⟩:=y;subst e;exact hs i x acc _ hi (y xs (hl i acc _ p)) p
theorem bh(Pv:Nat->List V->Hp->Prop)(h0:Pv 0 [] (upd H1 D (.lst [])))(hl:∀i acc H,Pv i acc H->SqL K H a xs)(hs:∀i x acc H,i < xs.length->xs[i]?=some x->Pv i acc H->te (some x::rest) H (CompN xs.length i D acc Pv))(hd:∀acc H,Pv xs.length acc H->Q (.ref D) H):lz (Itl K a) D te rest Q H1:=by
 refine jM xs.length Pv h0 (fun i acc H hi p=>⟨xs,xs[i],hl i acc H p,by simp[hi]⟩) (fun i x acc H H' hi p y=>?_) fun acc H p=>⟨⟨xs,hl _ acc H p,yV _⟩,hd acc H p⟩
 obtain⟨e,y⟩:=y;subst e;exact hs i x acc _ hi (y xs (hl i acc _ p)) p
theorem mD(Pv:Nat->List V->Hp->Prop)(h0:Pv 0 [] (upd H1 D (.lst [])))(hs:∀(i:Nat) acc H,i < n->Pv i acc H->te (some (.int (0+(i:Int)))::rest) H (CompN n i D acc Pv))(hd:∀acc H,Pv n acc H->Q (.ref D) H):lz (Itr 0 n) D te rest Q H1:=by
 refine jM n Pv h0 (fun i acc H hi p=>hi) (fun i x acc H H' hi p y=>?_) fun acc H p=>⟨yV _,hd acc H p⟩;obtain⟨e,y⟩:=y;subst e y;exact hs i acc _ hi p
end L2
namespace Dj
open PySem PySem.Spec PyProof.Rows L2 Tre
def SqX(K:PySem.W.Frag)(H:Hp)(a:Addr)(xs:List V):Prop:=
 H a=some (.tup xs)\/∃(o:Obj) (its:Array Value) (n:Nat),K.lookup a=some o/\o.cls= .type "tuple"/\o.data= .seq its n/\its.size<=sizeLine/\Vals xs its.toList
theorem SqX.mono(d:Kd H H')(h:SqX K H a xs):SqX K H' a xs:=h.elim (fun e=> .inl (d.tup _ _ e)) .inr
mutual
def KVt(K:PySem.W.Frag)(H:Hp):V->Tk.KT->Prop
 |v, .lf (.inl i)=>v= .int i
 |v, .lf (.inr x)=>v= .str x
 |v, .tp ts=>∃r vs,v= .ref r/\SqX K H r vs/\KVts K H vs ts
def KVts(K:PySem.W.Frag)(H:Hp):List V->List Tk.KT->Prop
 |vs,[]=>vs= []
 |vs,t::ts=>∃v r,vs=v::r/\KVt K H v t/\KVts K H r ts
end
mutual
theorem KVt.mono(d:Kd H H'):∀ {v:V} {t:Tk.KT},KVt K H v t->KVt K H' v t
 |v, .lf (.inl i),a=>by unfold KVt at a ⊢;exact a
 |v, .lf (.inr x),a=>by unfold KVt at a ⊢;exact a
 |v, .tp ts,a=>by
  unfold KVt at a ⊢;obtain⟨r,vs,e,s,q⟩:=a;exact⟨r,vs,e,s.mono d,KVts.mono d q⟩
theorem KVts.mono(d:Kd H H'):∀ {vs:List V} {ts:List Tk.KT},KVts K H vs ts->KVts K H' vs ts
 |vs,[],a=>by unfold KVts at a ⊢;exact a
 |vs,t::ts,a=>by
  unfold KVts at a ⊢;obtain⟨v,r,e,c,b⟩:=a;exact⟨v,r,e,KVt.mono d c,KVts.mono d b⟩
end
theorem vV(ok:HOk P w H h)(kin:K.In h){q:Addr}(e:SqX K H q vs):∃its:List Value,Vals vs its/\∃o n,h.get? q=some o/\o.cls= .type "tuple"/\o.data= .seq its.toArray n:=by
 rcases e with e|⟨o,its,n,hk,hc,hs,hz,r⟩
 . obtain⟨_,its,rv,o,h1,h2,n,h3⟩:=(show ObjOk P w H h q (.tup vs)from ok q _ e);exact⟨its,rv,o,n,h1,h2,h3⟩
 . exact⟨its.toList,r,o,n,kin q o hk,hc,by simpa using hs⟩
mutual
theorem sQ(ok:HOk P w H h)(kin:K.In h):∀ {v:V} {t:Tk.KT} {u:Value},KVt K H v t->RelV v u->Tk.KAt h u t
 |v, .lf (.inl i),u,a,r=>by
  unfold KVt at a;subst a;obtain⟨t,rfl⟩:=r;simp only[Tk.KAt];exact iQ i t
 |v, .lf (.inr x),u,a,r=>by
  unfold KVt at a;subst a;obtain⟨t,rfl⟩:=r;simp only[Tk.KAt];exact iP x t
 |v, .tp ts,u,a,r=>by
  unfold KVt at a;obtain⟨q,vs,rfl,e,as⟩:=a;obtain rfl:u=Value.ref q:=r;obtain⟨its,rv,o,n,h1,h2,h3⟩:=vV ok kin e;simp only[Tk.KAt];exact⟨q,o,its.toArray,n,rfl,h1,h2,h3,by simpa using kats_of ok kin as rv⟩
theorem kats_of(ok:HOk P w H h)(kin:K.In h):∀ {vs:List V} {ts:List Tk.KT} {us:List Value},KVts K H vs ts->Vals vs us->Tk.KsAt h us ts
 |vs,[],us,a,r=>by
  unfold KVts at a;subst a;cases r;simp[Tk.KsAt]
 |vs,t::ts,us,a,r=>by
  unfold KVts at a;obtain⟨v,q,rfl,c,b⟩:=a
  cases r with
  |cons r1 r2=>
   simp only[Tk.KsAt];exact⟨_,_,rfl,sQ ok kin c r1,kats_of ok kin b r2⟩
end
def KeyAt(K:PySem.W.Frag)(H:Hp)(k:List Tk.KT)(b:Addr):Prop:=∃vs,SqX K H b vs/\KVts K H vs k/\(Tk.KT.tp k).depth<=8
theorem KeyAt.mono{K:PySem.W.Frag}{H H':Hp}{k:List Tk.KT}{b:Addr}(d:Kd H H')(h:KeyAt K H k b):KeyAt K H' k b:=by
 obtain⟨ts,h1,h2,h3⟩:=h;exact⟨ts,h1.mono d,h2.mono d,h3⟩
theorem KeyAt.is{k:List Tk.KT}{b:Addr}(ok:HOk P w H h)(kin:K.In h)(x:KeyAt K H k b):(Tk.treeKind P w).is h k b:=by
 obtain⟨vs,h1,h2,a⟩:=x;have:=sQ ok kin (v:= .ref b) (t:= .tp k) (u:= .ref b) (by unfold KVt;exact⟨b,vs,rfl,h1,h2⟩) rfl
 exact⟨this,a⟩
abbrev Ent:=List Tk.KT×Addr×V
abbrev RE:List Ent->List (List Tk.KT×Addr×Value)->Prop:=Paired fun p q=>p.1=q.1/\p.2.1=q.2.1/\RelV p.2.2 q.2.2
noncomputable def dJ(P:Program)(w:World)(a:Addr)(kvs:List Ent):HO:= .ext fun h=>kvs.length<=sizeLine/\(a==sysModules)=false/\
 ∃xs:List (List Tk.KT×Addr×Value),RE kvs xs/\∃o es ep,h.get? a=some o/\o.ExactDict/\o.data= .dict es ep/\es.toList=xs.map (entryOfKey (Tk.treeKind P w))/\(xs.map (·.1)).Nodup
structure DJ (P:Program) (w:World) (K:PySem.W.Frag) (H:Hp) (a:Addr) (kvs:List Ent):Prop where
 at_:H a=some (dJ P w a kvs)
 keys:∀p∈kvs,KeyAt K H p.1 p.2.1
noncomputable def valJ(kvs:List Ent)(k:List Tk.KT):Option V:=(kvs.find? fun p=>decide (p.1=k)).map (·.2.2)
noncomputable def putJ(kvs:List Ent)(k:List Tk.KT)(b:Addr)(v:V):List Ent:=
 if (valJ kvs k).isSome then kvs.map (fun p=>if p.1=k then(p.1,p.2.1,v)else p)else kvs++ [(k,b,v)]
variable{p:Ent}{o:HO}{y:V}{xs:List (List Tk.KT×Addr×Value)}{r kvs:List Ent}{i:Expr}{u:Value}
theorem jW{k:List Tk.KT}(e:p.1=k):valJ (p::r) k=some p.2.2:=by simp[valJ,Ai,e]
theorem gH{k:List Tk.KT}(e:¬p.1=k):valJ (p::r) k=valJ r k:=by simp[valJ,Ai,e]
theorem fU(kvs:List Ent)(k:List Tk.KT)(b:Addr)(v:V):(putJ kvs k b v).length<=kvs.length+1:=by
 unfold putJ;split
 . rw[yR];omega
 . rw[zj,zg,List.length_nil];omega
theorem RE.val(r:RE kvs xs)(k:List Tk.KT):RelO (valJ kvs k) ((atKey xs k).map (·.2)):=by
 induction r with
 |nil=>exact True.intro
 | @cons p q ps qs h t a=>
  obtain⟨h1,_,h2⟩:=h;by_cases e:p.1=k
  . have e':q.1=k:=h1.symm.trans e;have b:atKey (q::qs) k=some q.2:=by simp[atKey,Ai,e']
    rw[jW e,b];exact h2
  . have e':¬q.1=k:=fun z=>e (h1.trans z);have b:atKey (q::qs) k=atKey qs k:=by simp[atKey,Ai,e']
    rw[gH e,b];exact a
theorem RE.repl(r:RE kvs xs)(k:List Tk.KT)(ry:RelV y u):
 RE (kvs.map fun p=>if p.1=k then(p.1,p.2.1,y)else p) (xs.map (putAt k u)):=by
 induction r with
 |nil=>exact .nil
 | @cons p q ps qs h t a=>
  rw[zh,zh];refine .cons ?_ a;obtain⟨h1,h2,h3⟩:=h;unfold putAt;by_cases e:p.1=k
  . rw[if_pos e,if_pos (h1.symm.trans e)];exact⟨h1,h2,ry⟩
  . rw[if_neg e,if_neg (fun z=>e (h1.trans z))];exact⟨h1,h2,h3⟩
theorem RE.put(r:RE kvs xs)(k:List Tk.KT){b:Addr}(ry:RelV y u):RE (putJ kvs k b y) (storedH xs k b u):=by
 have e:(valJ kvs k).isSome=(atKey xs k).isSome:=by
  rw[(r.val k).isSome_eq,Option.isSome_map]
 unfold putJ storedH;rw[e];by_cases q:(atKey xs k).isSome=true
 . rw[if_pos q,if_pos q];exact r.repl k ry
 . rw[if_neg q,if_neg q];exact Paired.snoc r ⟨rfl,rfl,ry⟩
theorem rJ{k:List Tk.KT}{b:Addr}(h:p∈putJ kvs k b v):(∃q∈kvs,p.1=q.1/\p.2.1=q.2.1)\/(p.1=k/\p.2.1=b):=by
 unfold putJ at h;split at h
 . obtain⟨q,m,e⟩:=zr.mp h;split at e
   . subst e;exact .inl ⟨q,m,rfl,rfl⟩
   . subst e;exact .inl ⟨q,m,rfl,rfl⟩
 . rcases zw.mp h with m|m
   . exact .inl ⟨p,m,rfl,rfl⟩
   . rw[zq.mp m];exact .inr ⟨rfl,rfl⟩
theorem Kd.updJ(h:H a=some (dJ P w a kvs)):Kd H (upd H a o):=by
 refine⟨fun b zs e=>?_,fun b zs e=>⟨zs,?_⟩⟩
 . rw[ae (fun z=>by rw[z,h]at e;cases e)];exact e
 . rw[ae (fun z=>by rw[z,h]at e;cases e)];exact e
theorem Kd.updK{kvs:List (Key×V)}(h:H a=some (.dK kvs)):Kd H (upd H a o):=by
 refine⟨fun b zs e=>?_,fun b zs e=>⟨zs,?_⟩⟩
 . rw[ae (fun z=>by rw[z,h]at e;cases e)];exact e
 . rw[ae (fun z=>by rw[z,h]at e;cases e)];exact e
theorem DJ.put{b:Addr}{k:List Tk.KT}(d:DJ P w K H a kvs)(hk:KeyAt K H k b):DJ P w K (upd H a (dJ P w a (putJ kvs k b v))) a (putJ kvs k b v):=by
 refine⟨a8,fun p m=>?_⟩;refine KeyAt.mono (Kd.updJ d.at_) ?_;rcases rJ m with⟨q,mq,e1,c⟩|⟨e1,c⟩
 . rw[e1,c];exact d.keys q mq
 . rw[e1,c];exact hk
theorem DJ.kd(d:DJ P w K H a kvs)(k:Kd H H')(e:H' a=some (dJ P w a kvs)):DJ P w K H' a kvs:=⟨e,fun p m=>(d.keys p m).mono k⟩
theorem fX(ok:HOk P w H h)(kin:K.In h)(d:DJ P w K H a kvs):kvs.length<=sizeLine/\(a==sysModules)=false/\∃xs,RE kvs xs/\h.DictOfH (Tk.treeKind P w) a xs:=by
 obtain⟨⟨z,y,xs,r,o,es,ep,h1,h2,h3,f,b⟩,_⟩:=(show ObjOk P w H h a (dJ P w a kvs)from ok a _ d.at_);refine⟨z,y,J4 xs r o es ep h1 ⟨h2,h3,f,?_,b⟩⟩
 have all:∀ {l:List Ent} {m:List (List Tk.KT×Addr×Value)},RE l m->(∀p∈l,KeyAt K H p.1 p.2.1)->∀x∈m,(Tk.treeKind P w).is h x.1 x.2.1:=by
  intro l m q
  induction q with
  |nil=>intro _ x hx;exact nomatch hx
  | @cons p q ps qs hq t c=>
   intro kp x hx;rcases yY.mp hx with e|hx
   . subst e;rw[<-hq.1,<-hq.2.1];exact(kp p yT).is ok kin
   . exact c (fun p m=>kp p (yU _ m)) x hx
 exact all r d.keys
theorem mn(z:kvs.length<=sizeLine)(y:(a==sysModules)=false)(r:RE kvs xs)(d:∃o es ep,h'.get? a=some o/\o.ExactDict/\o.data= .dict es ep/\es.toList=xs.map (entryOfKey (Tk.treeKind P w))/\(xs.map (·.1)).Nodup):ObjOk P w H' h' a (dJ P w a kvs):=by
 obtain⟨o,es,ep,h1,h2⟩:=d;refine⟨⟨z,y,J4 xs r o es ep h1 h2⟩,⟨o,h1⟩,?_⟩;rintro b g2 ⟨z,y,xs,r,o,es,ep,h1,h2⟩ st;exact⟨z,y,J4 xs r o es ep (st _ h1) h2⟩
noncomputable def qt(P:Program)(w:World):TE:=fun _ H Q=>∀p,H p=none->Q (.ref p) (upd H p (dJ P w p []))
noncomputable def rA(P:Program)(w:World)(K:PySem.W.Frag)(td ty tv:TE):TS:=fun D σ H=>tv σ H fun v H1=>td σ H1 fun x H2=>ty σ H2 fun y H3=>∃a b k kvs,x= .ref a/\y= .ref b/\DJ P w K H3 a kvs/\KeyAt K H3 k b/\kvs.length < sizeLine/\D.nx σ (upd H3 a (dJ P w a (putJ kvs k b v)))
noncomputable def qu(P:Program)(w:World)(K:PySem.W.Frag)(td ty tx:TE):TE:=fun σ H Q=>td σ H fun x H1=>∃a kvs,x= .ref a/\DJ P w K H1 a kvs/\ty σ H1 fun y H2=>tx σ H2 fun z H3=>∃b k,y= .ref b/\DJ P w K H3 a kvs/\KeyAt K H3 k b/\Q ((valJ kvs k).getD z) H3
theorem kR(h:Heap)(hb:sysModules < h.objs.size):ObjOk P w H (h.push {cls:= .type "dict",data:= .dict #[]}) h.objs.size (dJ P w h.objs.size []):=
 mn (zc _) (beq_eq_false_iff_ne.mpr (Ne.symm (zo hb))) .nil ⟨_, #[],0,Heap.get?_push_size _ rfl,⟨rfl,rfl,rfl⟩,rfl,rfl,List.nodup_nil⟩
theorem rW{pos:Pos}:PE X (.Dict [] [] pos) (qt X.prog X.w):=fun pins s σ H Q I h=>
 wpAny_Dict_empty ⟨.ref s.heap.objs.size,_,I.laid (a:=s.heap.objs.size) (o:=dJ X.prog X.w s.heap.objs.size []) (t':=s.toks) (fun _ _ q=>Heap.get?_push_of_some _ q) (yV _) (kR s.heap I.big),rfl,h _ (I.hok.fresh (yV _))⟩
variable{o f:Expr}
theorem rO{pos:Pos}{ty:TE}(hu:X.A.units+30 < cLine)(ho:PE X o td)(hi:PE X i ty)(hv:PE X value tv)(hs:swapsWith value (some (.Subscript o i pos')) pos.line X.env=pure false):
 PS X (.Assign [.Subscript o i pos'] value pos) (rA X.prog X.w X.K td ty tv):=by
 intro pins s σ H D I h;refine wpAny_Assign_Subscript (thn (hv pins s σ H _ I h) fun r s1 ⟨v,H1,I1,rv,t⟩=>thn (ho pins s1 σ H1 _ I1 t) fun u s2 ⟨x,H2,l,rx,q2⟩=>thn (hi pins s2 σ H2 _ l q2) fun iv s3 ⟨y,H3,c,ry,a,b,k,kvs,ex,ey,d,n,hl,p⟩=>?_) hs;subst ex ey;obtain rfl:u=Value.ref a:=rx;obtain rfl:iv=Value.ref b:=ry;obtain⟨z,hd,xs,e,dd⟩:=fX c.hok c.kIn d;have hz:xs.length<=sizeLine:=by rw[<-Paired.length e];exact z
 have f:(putJ kvs k b v).length<=sizeLine:=by have:=fU kvs k b v;omega
 refine wpAny_setItem_heap (hsz:=hz) (by show X.A.units+1+20 < cLine;omega) (n.is c.hok c.kIn) dd fun h' g hs=>U3 σ _ ?_ p
 obtain⟨q,es,ep,hq,h2,h3,m,_,j⟩:=g;exact gA c (by rw[d.at_];exact True.intro) hs ⟨q,hq⟩ (mn f hd (e.put k rv) (U4 q es ep hq h2 h3 m j))
theorem rX{ty:TE}(hu:X.A.units+30 < cLine)(ho:PE X o td)(he:PE X e ty)(hf:PE X f tx)(m:M2 X o "get" apos e f cpos):PE X (.Call (.Attribute o "get" apos) [e,f] [] cpos) (qu X.prog X.w X.K td ty tx):=by
 intro pins s σ H Q I h;refine wpAny_Call_method m.base m.few m.line PySem.F.plainAttrs_dict PySem.F.slot_dict_get PySem.F.type_dict_get (thn (ho pins s σ H _ I h) fun u s1 ⟨x,H1,j,rx,a,kvs,ex,d,v⟩=>?_);subst ex;obtain rfl:u=Value.ref a:=rx
 have g:s1.TypeIs (.ref a) "dict"/\∀b,Value.ref a= .ref b->∃ob,s1.heap.get? b=some ob/\ob.dict=none:=by
  obtain⟨_,_,xs,_,dd⟩:=fX j.hok j.kIn d;refine⟨dd.typeIs,fun b q=>?_⟩;cases q;obtain⟨ob,_,_,h1,h2,_⟩:=dd;exact Y3 ob h1 h2.2.1
 refine⟨g.1,g.2,?_⟩;rw[m.trees]
 refine Calls.callWith_builtin rfl (Calls.evalArgs_plain (Calls.spliced_cons (thn (he pins s1 σ H1 _ j v) fun iv s2 ⟨y,H2,n,ry,q2⟩=>
  Calls.spliced_cons (thn (hf pins s2 σ H2 _ n q2) fun p s3 ⟨z,H3,c,rz,b,k,ey,l,r,t⟩=>Calls.spliced_nil ?_))))
 subst ey;obtain rfl:iv=Value.ref b:=ry;obtain⟨_,hd,xs,i,dd⟩:=fX c.hok c.kIn l;exact call_meetsIn PySem.F.slot_dict_get dd.typeIs PySem.F.entry_dict_get (PySem.F.args_dict_get_3 _ _ _) (meetsH_dict_get_default (Tk.treeKind X.prog X.w) a b hd p) ⟨by show X.A.units+1+20 < cLine;omega,Y5 k xs (r.is c.hok c.kIn) dd (Y5 _ H3 (c.tok _) ((i.val k).getD rz) t)⟩
theorem uv{pos:Pos}(hP:X.prog=P)(hw:X.w=w):PE X (.Dict [] [] pos) (qt P w):=by
 subst hP hw;exact rW
theorem ur{pos:Pos}{ty:TE}(hP:X.prog=P)(hw:X.w=w)(hK:X.K=K)(hu:X.A.units+30 < cLine)(ho:PE X o td)(hi:PE X i ty)(hv:PE X value tv)(hs:swapsWith value (some (.Subscript o i pos')) pos.line X.env=pure false):
 PS X (.Assign [.Subscript o i pos'] value pos) (rA P w K td ty tv):=by
 subst hP hw hK;exact rO hu ho hi hv hs
theorem ux{ty:TE}(hP:X.prog=P)(hw:X.w=w)(hK:X.K=K)(hu:X.A.units+30 < cLine)(ho:PE X o td)(he:PE X e ty)(hf:PE X f tx)(m:M2 X o "get" apos e f cpos):PE X (.Call (.Attribute o "get" apos) [e,f] [] cpos) (qu P w K td ty tx):=by
 subst hP hw hK;exact rX hu ho he hf m
end Dj
namespace Tre
open PySem L2
theorem gP{y:Str}(h:x.cps.toList=y.cps.toList):x=y:=by
 cases x;cases y;simp only[Str.mk.injEq];exact Array.toList_inj.mp h
theorem ff{ts us:List Tr}(h:∀t∈ts,∀u∈us,code t=code u->t=u)(e:codes ts=codes us):ts=us:=by
 induction ts generalizing us with
 |nil=>cases us with
  |nil=>rfl
  |cons u us=>simp[codes]at e
 |cons t ts c=>
  cases us with
  |nil=>simp[codes]at e
  |cons u us=>
   simp only[codes,Av]at e;rw[h t yT u yT e.1,c (fun a ma b d=>h a (yU _ ma) b (yU _ d)) e.2]
theorem nl{x y:String}(h:(Str.ofString x).cps.toList≠(Str.ofString y).cps.toList){r s:List Co}:Co.tup (.str (Str.ofString x).cps.toList::r)=Co.tup (.str (Str.ofString y).cps.toList::s)->False:=fun e=>by
 simp only[Co.tup.injEq,Av,Co.str.injEq]at e;exact h e.1
theorem xS:∀(n:Nat) {k:So} {t u:Tr},t.depth<=n->Ty k t->Ty k u->code t=code u->t=u:=by
 intro n
 induction n with
 |zero=>
  intro k t u hd h1 h2;cases h1<;>simp[Tr.depth]at hd
 |succ n g=>
  intro k t u hd h1 h2 e
  have sub:∀ {ts:List Tr} {t:Tr},(Tr.tup ts).depth<=n+1->t∈ts->t.depth<=n:=fun h m=>by
   unfold Tr.depth at h;have:=bM m;omega
  have c:∀ {ts l:List Tr} {t:Tr},(Tr.tup ts).depth<=n+1->Tr.tup l∈ts->t∈l->t.depth<=n:=fun h m s=>by
   have h3:=sub h m;unfold Tr.depth at h3;have:=bM s;omega
  cases h1<;>cases h2<;>simp only[code,codes]at e
  all_goals first
   |exact(nl (by decide +kernel) e).elim
   |skip
  all_goals simp only[Co.tup.injEq,Av,Co.str.injEq,Co.num.injEq,and_true,true_and]at e
  . rw[gP e]
  . rename_i x ts _ h1 y us _ h2;rw[gP e.1,ff (fun a ma b i=>g (c hd (by simp) ma) (h1 a ma) (h2 b i)) e.2]
  . rw[e.1,e.2]
  . rename_i t1 q f b1 t2 p d b2;rw[g (sub hd (by simp)) f d e.1,g (sub hd (by simp)) b1 b2 e.2]
  . rw[gP e]
  . rename_i v q f b1 p2 p d b2;rw[ff (fun a ma b i=>g (c hd (by simp) ma) (f a ma) (d b i)) e.1,g (sub hd (by simp)) b1 b2 e.2]
  . rename_i t1 w f b1 t2 z d b2;rw[g (sub hd (by simp)) f d e.1,g (sub hd (by simp)) b1 b2 e.2]
  . rename_i r f o d;rw[g (sub hd (by simp)) f d e]
  . rename_i l1 f l2 d;rw[ff (fun a ma b i=>g (c hd (by simp) ma) (f a ma) (d b i)) e]
  . rename_i l1 f l2 d;rw[ff (fun a ma b i=>g (c hd (by simp) ma) (f a ma) (d b i)) e]
  . rename_i r b1 f o b2 d
    have j:b1=b2:=by
     have:=e.2;cases b1<;>cases b2<;>simp at this ⊢
    rw[g (sub hd (by simp)) f d e.1,j]
end Tre
namespace Wd
open PySem L2 Tre Mth Dj
def Lt2(e:Nat)(x:Int):Prop:=x.natAbs < 2^e
variable{x:Int}
theorem Lt2.mono(h:Lt2 m x)(hn:m<=n):Lt2 n x:=ze h (zE (by decide) hn)
theorem Lt2.big(h:Lt2 n x)(hn:n<=8000):Big x:=h.mono hn
theorem Lt2.div{e:Nat}(h:Lt2 e x):Lt2 e (x / y):=zk (cu x y) h
theorem Lt2.mul(h1:Lt2 m x)(h2:Lt2 n y):Lt2 (m+n) (x*y):=by
 unfold Lt2 at*;rw[zA,Nat.pow_add];exact Nat.mul_lt_mul'' h1 h2
theorem Lt2.add(h1:Lt2 m x)(h2:Lt2 m y):Lt2 (m+1) (x+y):=by
 unfold Lt2 at*;have:=Int.natAbs_add_le x y;rw[Nat.pow_succ];omega
abbrev Fr:=Int×Int
def frT(p:Fr):Tr:= .tup [.int p.1, .int p.2]
structure Gf (e:Nat) (p:Fr):Prop where
 pos:0 < p.2
 top:Lt2 e p.1
 bot:Lt2 e p.2
theorem Gf.mono{m n:Nat}{p:Fr}(h:Gf m p)(hn:m<=n):Gf n p:=⟨h.pos,h.top.mono hn,h.bot.mono hn⟩
def zero:Fr:=(0,1)
noncomputable def gL(p q:Fr):Fr:=(tX p.1 p.2 q.1 q.2,tY p.1 p.2 q.1 q.2)
end Wd
namespace Su
open PySem L2 Tre Mth Wd
def rv(p:Fr):Rat:=(p.1:Rat) / (p.2:Rat)
abbrev Sh(p:Fr):Prop:=lw p.1 p.2
theorem ne0{b:Int}(h:0 < b):(b:Rat)≠0:=by
 simp only[ne_eq,Rat.intCast_eq_zero_iff];omega
variable{p q:Fr}
theorem vD(h1:0 < p.2)(h2:0 < q.2):rv p=rv q↔p.1*q.2=q.1*p.2:=by
 have a:=ne0 h1;have b:=ne0 h2;unfold rv;constructor
 . intro h;have:(p.1:Rat)*q.2=q.1*p.2:=by grind
   exact_mod_cast this
 . intro h;have:(p.1:Rat)*q.2=q.1*p.2:=by exact_mod_cast h
   grind
theorem fu(h1:Sh p)(h2:Sh q)(e:rv p=rv q):p=q:=by
 rw[vD h1.1 h2.1]at e;obtain⟨a,b⟩:=p;obtain⟨c,d⟩:=q;obtain⟨b0,i⟩:=h1;obtain⟨l,g2⟩:=h2;dsimp only at*;have n1:a.natAbs*d.natAbs=c.natAbs*b.natAbs:=by rw[<-zA,<-zA,e]
 have f:Nat.Coprime b.natAbs a.natAbs:=by rw[Nat.coprime_comm];exact i
 have g:Nat.Coprime d.natAbs c.natAbs:=by rw[Nat.coprime_comm];exact g2
 have d1:b.natAbs∣d.natAbs:=f.dvd_of_dvd_mul_left ⟨c.natAbs,by rw[n1,Nat.mul_comm]⟩
 have h:d.natAbs∣b.natAbs:=g.dvd_of_dvd_mul_left ⟨a.natAbs,by rw[<-n1,Nat.mul_comm]⟩
 have e1:=Nat.dvd_antisymm d1 h;have j:b=d:=by omega
 subst j;have k:a=c:=Int.eq_of_mul_eq_mul_right (by omega) e
 rw[k]
theorem kj(h1:Sh p)(h2:Sh q):rv (gL p q)=rv p*rv q:=by
 obtain⟨s,e⟩:=pZ h1 h2;have a:=ne0 h1.1;have b:=ne0 h2.1;have c:=ne0 s.1;have e':((tX p.1 p.2 q.1 q.2:Int):Rat)*(p.2*q.2)=p.1*q.1*(tY p.1 p.2 q.1 q.2:Int):=by exact_mod_cast e
 unfold rv gL;dsimp only;grind
theorem gi:Sh zero:=⟨by decide,by decide⟩
theorem rv_zero:rv zero=0:=by
 show((0:Int):Rat) / ((1:Int):Rat)=0;have:((0:Int):Rat)=0:=by simp
 rw[this];grind
theorem vC(h:Sh p):rv p=0↔p=zero:=by
 constructor
 . intro e;exact fu h gi (e.trans rv_zero.symm)
 . rintro rfl;exact rv_zero
noncomputable def low(t b:Int):Fr:=(t / (Int.gcd t b:Int),b / (Int.gcd t b:Int))
theorem fm{b:Int}(h:0 < b):Sh (low t b):=by
 obtain⟨i,e,ex,g,c,a,f⟩:=cz (x:=t) (y:=b) (by omega)
 unfold low;rw[a,f];have d:0 < e:=cZ (k:=(Int.gcd t b:Int)) (by omega) (by omega)
 exact⟨d,c⟩
theorem jk{b:Int}(h:0 < b):rv (low t b)=(t:Rat) / (b:Rat):=by
 have s:=fm (t:=t) h;obtain⟨a,c,ex,f,j,d,i⟩:=cz (x:=t) (y:=b) (by omega)
 have k:0 < Int.gcd t b:=zB t (by omega)
 unfold low at s ⊢;rw[d,i]at s ⊢
 have e:a*b=t*c:=by
  generalize ((Int.gcd t b:Nat):Int)=g at*;rw[ex,f];simp only[AI,Int.mul_left_comm,A9]
 exact(vD (p:=(a,c)) (q:=(t,b)) s.1 h).mpr e
theorem mh{e:Nat}{b:Int}(h:0 < b)(h1:Lt2 e t)(h2:Lt2 e b):Gf e (low t b):=⟨(fm h).1,h1.div,h2.div⟩
abbrev Pq:=Tr×Fr
def prT(p:Pq):Tr:= .tup [p.1,frT p.2]
open Classical in
noncomputable def tot(t:Tr):List Pq->Rat
 | []=>0
 |p::r=>(if p.1=t then rv p.2 else 0)+tot t r
theorem gc(t:Tr)(a b:List Pq):tot t (a++b)=tot t a+tot t b:=by
 induction a with
 |nil=>simp only[List.nil_append,tot];grind
 |cons p r c=>simp only[zK,tot,c];grind
open Classical in
theorem u9(t:Tr)(p:Pq):tot t [p]=if p.1=t then rv p.2 else 0:=by
 simp only[tot];grind
variable{us ps vs:List Pq}{p q:Pq}{t u:Tr}
theorem pU{a b:List Pq}(h:a.Perm b):tot t a=tot t b:=by
 induction h with
 |nil=>rfl
 |cons x _ c=>simp only[tot,c]
 |swap x y l=>simp only[tot];grind
 |trans _ _ h1 h2=>rw[h1,h2]
theorem dm{t:Tr}:∀ {l:List Pq},(∀p∈l,p.1≠t)->tot t l=0
 | [],_=>rfl
 |p::r,h=>by
  simp only[tot];rw[if_neg (h p yT),dm fun q m=>h q (yU _ m)];grind
abbrev Asc(us:List Pq):Prop:=us.Pairwise fun a b=>ltT a.1 b.1=true
theorem x4(t:Tr):ltT t t=false:=by
 cases e:ltT t t with
 |false=>rfl
 |true=>exact(i3 e).symm.trans e |>.symm
theorem fR(h:ltT t u=true):t≠u:=fun z=>by
 rw[z,x4]at h;cases h
theorem oA(h:Asc us)(m:p∈us):tot p.1 us=rv p.2:=by
 induction us with
 |nil=>cases m
 |cons q r a=>
  obtain⟨h1,h2⟩:=AF.mp h;simp only[tot];rcases yY.mp m with e|m
  . subst e;rw[if_pos rfl,dm fun x b=>(fR (h1 x b)).symm];grind
  . rw[if_neg (fR (h1 p m)),a h2 m];grind
structure Can (ps us:List Pq):Prop where
 asc:Asc us
 sh:∀p∈us,Sh p.2/\p.2≠zero
 eq:∀t,tot t us=tot t ps
theorem Can.mem(h1:Can ps us)(h2:Can ps vs)(m:p∈us):p∈vs:=by
 have e1:=oA h1.asc m;rw[h1.eq,<-h2.eq]at e1;have d:rv p.2≠0:=fun z=>(h1.sh p m).2 ((vC (h1.sh p m).1).mp z);refine Classical.byContradiction fun no=>?_;by_cases q:∀x∈vs,x.1≠p.1
 . rw[dm q]at e1;exact d e1.symm
 . obtain⟨x,hx⟩:=Classical.not_forall.mp q;obtain⟨a,ex⟩:=Classical.not_imp.mp hx;have ex:=Classical.not_not.mp ex;have b:=oA h2.asc a;rw[ex,e1]at b;have c:=fu (h1.sh p m).1 (h2.sh x a).1 b;have:x=p:=Prod.ext ex c.symm;rw[this]at a;exact no a
theorem tV:∀ {us vs:List Pq},Asc us->Asc vs->(∀p,p∈us↔p∈vs)->us=vs
 | [],[],_,_,_=>rfl
 | [],b::vs,_,_,h=>by
  have:=(h b).mpr yT;cases this
 |a::us,[],_,_,h=>by
  have:=(h a).mp yT;cases this
 |a::us,b::vs,h1,h2,h=>by
  obtain⟨c,d⟩:=AF.mp h1;obtain⟨b1,b2⟩:=AF.mp h2
  have e:a=b:=by
   rcases yY.mp ((h a).mp yT)with e|m
   . exact e
   . rcases yY.mp ((h b).mpr yT)with e|m'
     . exact e.symm
     . have:=i3 (b1 a m);rw[c b m']at this;cases this
  subst e;rw[tV d b2 fun p=>?_];constructor
  . intro m;rcases yY.mp ((h p).mp (yU _ m))with e|m'
    . rw[e]at m;exact absurd rfl (fR (c a m))
    . exact m'
  . intro m;rcases yY.mp ((h p).mpr (yU _ m))with e|m'
    . rw[e]at m;exact absurd rfl (fR (b1 a m))
    . exact m'
theorem Can.uniq(h1:Can ps us)(h2:Can ps vs):us=vs:=tV h1.asc h2.asc fun p=>⟨h1.mem h2,h2.mem h1⟩
theorem uG(h:ltT p.1 q.1=true):ltT (prT p) (prT q)=true:=by
 rw[ltT_iff]at h ⊢;show LtC (.tup (code p.1::_)) (.tup (code q.1::_));simp only[LtC,LtCs];exact .inl h
theorem nY(h:ltT (prT q) (prT p)=false):ltT q.1 p.1=false:=by
 cases e:ltT q.1 p.1 with
 |false=>rfl
 |true=>rw[uG e]at h;cases h
theorem vG(h1:ltT u t=false)(h2:eqT t u=false):ltT t u=true:=by
 cases e:ltT t u with
 |true=>rfl
 |false=>rw[xc e h1]at h2;cases h2
theorem vk(h1:Ty .tm t)(h2:Ty .tm u)(h:eqT t u=true):t=u:=xS t.depth (yV _) h1 h2 ((cW t u).mp h)
end Su
namespace L2
open PySem PySem.Spec PyProof.Rows
def jT(J:It)(D:Addr)(tc:TT)(te:TE)(rest:L2.St)(Q:VK)(H1:Hp):Prop:=
 ∃W:Nat->Nat->List V->Hp->Prop,(∃m,W 0 m [] (upd H1 D (.lst [])))/\∀i m acc H2,W i m acc H2->
  (J.stop i H2/\Q (.ref D) H2)\/
  (J.go i H2/\∀x H3,J.yld i H2 x H3->aM 0 x (none::rest) H3 fun σ4 H4=>Ext (none::rest) σ4/\tc σ4 H4 fun b H5=>if b=true then te σ4 H5 fun v H6=>H6 D=some (.lst acc)/\acc.length < sizeLine/\∃m',m' < m/\W (i+1) m' (acc++ [v]) (upd H6 D (.lst (acc++ [v])))
   else∃m',m' < m/\W (i+1) m' acc H5)
variable{Q:VK}
theorem cA(e:subS mp σ=none::rest)(h:wi σ H fun J H1=>∀D,H1 D=none->jT J D tc te rest Q H1):bU mp wi (aM 0) tc te σ H Q:=by
 unfold bU;rw[e];exact h
def CompS(n i:Nat)(acc:List V)(Pv:Nat->List V->Hp->Prop):Hp->Prop:=fun H5=>∃m',m' < n - i/\(m'=n - (i+1)/\i+1<=n/\Pv (i+1) acc H5)
theorem CompS.mk(hi:i < n)(h:Pv (i+1) acc H5):CompS n i acc Pv H5:=⟨n - (i+1),by omega,rfl,hi,h⟩
theorem eN(Pv:Nat->List V->Hp->Prop)(h0:Pv 0 [] (upd H1 D (.lst [])))(hl:∀i acc H,Pv i acc H->SqL K H a xs)(hs:∀i x acc H,i < xs.length->xs[i]?=some x->Pv i acc H->tc (some x::rest) H fun b H5=>if b=true then te (some x::rest) H5 (CompN xs.length i D acc Pv)else CompS xs.length i acc Pv H5)(hd:∀acc H,Pv xs.length acc H->Q (.ref D) H):jT (Itl K a) D tc te rest Q H1:=by
 refine Y3 (fun i m acc H=>m=xs.length - i/\i<=xs.length/\Pv i acc H) (Y8 xs.length (by simp) (zc _) h0) ?_
 rintro i m acc H ⟨rfl,hi,p⟩;by_cases c:i < xs.length
 . refine .inr ⟨(U3 xs (xs[i]) (hl i acc H p) (by simp[c])),fun x H' y=>⟨ext1,?_⟩⟩
   obtain⟨e,y⟩:=y;subst e;exact hs i x acc _ c (y xs (hl i acc _ p)) p
 . have e:i=xs.length:=by omega
   subst e;exact .inl ⟨(Y3 xs (hl _ acc H p) (yV _)),hd acc H p⟩
end L2
namespace L2
open PySem PySem.Spec PyProof.Rows
theorem Inv.turneds(I:Inv X pins σ H s)(k:∀b o,b∉fp->s.heap.get? b=some o->h'.get? b=some o)(hf:∀b∈fp,FpOk X pins H b):Inv X pins σ H {s with heap:=h',toks:=t'}:=by
 refine I.call' (s':= {s with heap:=h',toks:=t'}) (ch:=fp) rfl ⟨fun b o e _ _ hx=>k b o hx e,fun b o e _ _ hx=>⟨o.slots,k b o hx e⟩,fun _ _ _ n _=>n,fun b o e hx=>⟨o,k b o hx e⟩,fun _ _ e=>e,fun _ _ _ e=>e,fun b ps e=>⟨#[],by rw[e];simp⟩⟩ ?_ I.bare fun b hb=>?_
 . intro b o e;have nb:∀c u,H c=some u->c∉fp:=fun c u e z=>by rw[(hf c z).1]at e;cases e
   refine(I.hok b o e).stay (fun c v hc q=>k c v ?_ q) (fun _ q=>q) fun _ _ q=>q;rcases hc with z|z
   . rw[z];exact nb b o e
   . exact nb c _ z
 . obtain⟨h,f,g2,g,a,d⟩:=hf b hb;exact⟨g,f,a,d⟩
end L2
namespace Tre
open PySem PySem.Spec PyProof.Rows L2
theorem tZ{H:Hp}{t:Tr}{e:Value->Bool}:∀ {xs:List V} {us:List Value} {ts:List Tr},Vals xs us->TrsAt H xs ts->(∀v u s,RelV v u->TrAt H v s->e u=eqT s t)->us.any e=ts.any fun s=>eqT s t
 |_,_,[],r,h,_=>by
  unfold TrsAt at h;subst h;cases r;rfl
 |_,_,s::ts,r,h,he=>by
  unfold TrsAt at h;obtain⟨v,q,rfl,h1,h2⟩:=h
  cases r with
  |cons r1 r2=>rw[List.any_cons,List.any_cons,tZ r2 h2 he,he _ _ _ r1 h1]
def SqE(H:Hp)(p:Addr)(xs:List V):Prop:=H p=some (.lst xs)\/H p=some (.tup xs)
def rIn(b:Bool):R2:=fun x y H Q=>∃p xs ts t,y= .ref p/\SqE H p xs/\TrsAt H xs ts/\TrAt H x t/\(∀u∈ts,u.depth<=40)/\t.pure/\Q (.bl ((ts.any fun u=>eqT u t)==b)) H
theorem kJ{ts:List Tr}{t:Tr}{x:V}{v:Value}(hu:X.A.units+50 < cLine)(I:Inv X pins σ H s)(rx:RelV x v)(r:Vals xs its)(hT:TrsAt H xs ts)(ht:TrAt H x t)(hd:∀u∈ts,u.depth<=40)(hpu:t.pure):
 ∃e:Value->Bool,(∀w,w∈its.toArray->SeqAt.EqAt X.A.in1 s w v (e w))/\its.toArray.any e=ts.any fun s=>eqT s t:=by
 classical
 have he:∀v' u' s',RelV v' u'->TrAt H v' s'->decide (∃v s,RelV v u'/\TrAt H v s/\eqT s t=true)=eqT s' t:=fun v' u' s' r' h'=>by
  cases e:eqT s' t with
  |true=>exact decide_eq_true (Y5 v' s' r' h' e)
  |false=>
   refine decide_eq_false ?_;rintro⟨h,i,r2,h2,a⟩;cases r2.inj r';rw[TrAt.det h2 h',e]at a;cases a
 refine Y3 (fun u'=>decide (∃v s,RelV v u'/\TrAt H v s/\eqT s t=true)) (fun w hw=>?_) ?_
 . have b:w∈its:=by simpa using hw
   obtain⟨j,f,g⟩:=Ac b;have l1:=r.length;have l2:=hT.len;have t1:ts[j]?=some (ts[j]'(by omega)):=yS _
   obtain⟨v',e1,d⟩:=hT.get t1;obtain⟨u',a,c⟩:=r.get e1;rw[yS f,g]at a;cases a;dsimp only;rw[he _ _ _ c d];exact ga I 40 (hd _ (z5 t1)) (.inr hpu) d ht c rx (by show X.A.units+1+40+1 < cLine;omega)
 . rw[List.any_toArray];exact tZ r hT he
theorem tQ(b:Bool):(b==true)=b:=by cases b<;>rfl
theorem wn(hu:X.A.units+50 < cLine):OpR X (compareOp .In) (rIn true):=by
 intro pins s σ H x y v u Q I c d h;obtain⟨p,xs,ts,t,rfl,hp,b,ht,hd,a,q⟩:=h;cases d;rcases hp with hp|hp
 . obtain⟨its,r,pl,hz⟩:=I.list (SqL.of hp);obtain⟨e,h1,h2⟩:=kJ hu I c r b ht hd a;refine SeqAt.in_listAt e pl.isList h1 (Y5 (.bl _) H I rfl ?_);rw[h2,<-tQ (ts.any fun s=>eqT s t)];exact q
 . obtain⟨its,r,pl,hz⟩:=I.tuple (SqT.of hp);obtain⟨e,h1,h2⟩:=kJ hu I c r b ht hd a;refine SeqAt.in_tupleAt e (show s.heap.IsTuple p its.toArray from pl) h1 (Y5 (.bl _) H I rfl ?_);rw[h2,<-tQ (ts.any fun s=>eqT s t)];exact q
end Tre
namespace L2
open PySem PySem.Spec PyProof.Rows
theorem tM{Q:VK}(e:subS mp σ=none::none::rest)(ha:∀Q:VK,Q (.ref a) H1->tl σ H Q)(h1:SqT K H1 a xs)(h:∀D,H1 D=none->∃Pv:Nat->List V->Hp->Prop,Pv 0 [] (upd H1 D (.lst []))/\(∀i acc H,Pv i acc H->SqT K H a xs)/\
  (∀i z acc H,i < xs.length->Pv i acc H->xs[i]?=some z->∃T x y,z= .ref T/\SqT K' H T [x,y]/\te (some x::some y::rest) H (CompN xs.length i D acc Pv))/\∀acc H,Pv xs.length acc H->Q (.ref D) H):
 bU mp (iTup K tl) (gTup K' 2 (b9 (aM 0) (b9 (aM 1) gNil))) cY te σ H Q:=by
 unfold bU;rw[e];refine ha _ (Y8 a rfl ⟨xs,h1⟩ (fun D g=>?_));obtain⟨Pv,f,k,ps,n⟩:=h D g;refine Y3 (fun i m acc H=>m=xs.length - i/\i<=xs.length/\Pv i acc H) (Y8 xs.length (by simp) (zc _) f) ?_
 rintro i m acc H ⟨rfl,hi,p⟩;have d:=k i acc H p;by_cases b:i < xs.length
 . refine .inr ⟨(U3 xs (xs[i]) d (by simp[b])),?_⟩
   rintro v H' ⟨rfl,y⟩;have j:=y xs d;obtain⟨T,x,z,rfl,l,c⟩:=ps i v acc _ b p j;exact O3 T ([x,z]) rfl l rfl x ([z]) rfl z ([]) rfl rfl ⟨ext2,c⟩
 . have ei:i=xs.length:=by omega
   subst ei;exact .inl ⟨(Y3 xs d (yV _)),n acc H p⟩
end L2
namespace L2
open PySem Tre Wd
variable{a:Int}{ts:List Tr}{t:Tr}
theorem ck{t rest:TS}(R:L2.St->Hp->Prop)(hR:∀σ' H',R σ' H'->rest Z σ' H')(h:∀nx:L2.St->Hp->Prop,(∀σ' H',R σ' H'->nx σ' H')->t {Z with nx:=nx} σ H):tSeq t rest Z σ H:=h _ hR
theorem ah{k:L2.St->Hp->Prop}(h:k (σ.set i (some v)) H):aM i v σ H k:=h
theorem fk(h:Z.nx σ H):vq Z σ H:=h
theorem u8{r:List V->Hp->VK->Prop}(h:te σ H fun v H1=>r [v] H1 Z.rt):tRet (tCB r (cg te tNil)) Z σ H:=h
theorem mN(h:te σ H Z.rt):tRet te Z σ H:=h
theorem vQ{Q:List V->Hp->Prop}(h:te σ H fun v H1=>Q [v] H1):cg te tNil σ H Q:=h
theorem kN{r:List Tr}(h:TrAt H v (.tup (.str x::r))):∃a vs,v= .ref a/\H a=some (.tup (.str x::vs))/\TrsAt H vs r:=by
 unfold TrAt at h;obtain⟨a,vs,e,h1,h2⟩:=h;obtain⟨y,r1,rfl,h3,b⟩:=h2.inv;unfold TrAt at h3;subst h3;exact⟨a,r1,e,h1,b⟩
theorem at2{k:Str}(h:TrAt H v (.tup [.str k,t])):∃a y,v= .ref a/\H a=some (.tup [.str k,y])/\TrAt H y t:=by
 obtain⟨a,vs,e,h1,h2⟩:=kN h;obtain⟨y,r,rfl,h3,b⟩:=h2.inv;unfold TrsAt at b;subst b;exact⟨a,y,e,h1,h3⟩
theorem at3{k:Str}{u:Tr}(h:TrAt H v (.tup [.str k,t,u])):∃a y z,v= .ref a/\H a=some (.tup [.str k,y,z])/\TrAt H y t/\TrAt H z u:=by
 obtain⟨a,vs,e,h1,h2⟩:=kN h;obtain⟨y,r,rfl,h3,d⟩:=h2.inv;obtain⟨z,r2,rfl,c,b⟩:=d.inv;unfold TrsAt at b;subst b;exact⟨a,Y7 y z e h1 h3 c⟩
theorem at_s(h:TrAt H v (.str x)):v= .str x:=by
 unfold TrAt at h;exact h
theorem at_t(h:TrAt H v (.tup ts)):∃a vs,v= .ref a/\H a=some (.tup vs)/\TrsAt H vs ts:=by
 unfold TrAt at h;exact h
theorem xP:TrAt H (.str x) (.str x):=by unfold TrAt;rfl
theorem eO(h:H r=some (.tup vs))(h1:TrsAt H vs ts):TrAt H (.ref r) (.tup ts):=by
 unfold TrAt;exact⟨r,vs,rfl,h,h1⟩
theorem cq{a b:Tr}(h:TrAt H v (.tup [a,b])):∃r x y,v= .ref r/\H r=some (.tup [x,y])/\TrAt H x a/\TrAt H y b:=by
 unfold TrAt at h;obtain⟨r,vs,e,h1,h2⟩:=h;obtain⟨x,r1,rfl,h3,f⟩:=h2.inv;obtain⟨y,r2,rfl,d,c⟩:=f.inv;unfold TrsAt at c;subst c;exact⟨r,x,y,e,h1,h3,d⟩
theorem uP{b:Int}(h:TrAt H v (.tup [.int a, .int b])):∃r,v= .ref r/\H r=some (.tup [.int a, .int b]):=by
 obtain⟨r,x,y,e,h1,h2,h3⟩:=cq h;unfold TrAt at h2 h3;subst h2 h3;exact⟨r,e,h1⟩
theorem cy{x y:V}{a b:Tr}(h:H r=some (.tup [x,y]))(h1:TrAt H x a)(h2:TrAt H y b):TrAt H (.ref r) (.tup [a,b]):=by
 unfold TrAt;exact⟨r,_,rfl,h, .cons h1 (.cons h2 .nil)⟩
theorem bZ{b:Int}(h:H r=some (.tup [.int a, .int b])):TrAt H (.ref r) (.tup [.int a, .int b]):=cy h (by unfold TrAt;rfl) (by unfold TrAt;rfl)
theorem cG{p:Fr}(h:TrAt H v (frT p)):∃r,v= .ref r/\H r=some (.tup [.int p.1, .int p.2]):=uP h
end L2
namespace L2
open PySem PySem.Spec PyProof.Rows
def rNeP(K:PySem.W.Frag):R2:=fun x y H Q=>∃(p q:Addr) (a b c d:Int),x= .ref p/\y= .ref q/\SqT K H p [.int a, .int b]/\SqT K H q [.int c, .int d]/\Q (.bl (!decide (a=c/\b=d))) H
theorem js(hu:X.A.units+1 < cLine):OpR X (compareOp .NotEq) (rNeP X.K):=by
 intro pins s σ H x y v u Q I o l h;obtain⟨p,q,a,b,c,d,e1,g,hp,hq,k⟩:=h;subst e1 g;cases (show v=Value.ref p from o);cases (show u=Value.ref q from l);obtain⟨its,r1,t1,_⟩:=I.tuple hp;obtain⟨f,r2,t2,_⟩:=I.tuple hq;obtain⟨r,t,rfl,⟨m,rfl⟩,⟨i,rfl⟩⟩:=Vals.two r1;obtain⟨z,u4,rfl,⟨n,rfl⟩,⟨w4,rfl⟩⟩:=Vals.two r2;refine SeqAt.RcNeAt.tuples (A:=X.A) (e:=fun j=>if j=0 then a==c else b==d) (show s.heap.IsTuple p _ from t1) (show s.heap.IsTuple q _ from t2) (by omega) (fun j h1 h2=>?_) X.prog X.w X.xe _ ?_
 . match j,h1,h2 with
   |0,_,_=>exact PySem.SeqAt.EqAt.int_int a m c n
   |1,_,_=>exact PySem.SeqAt.EqAt.int_int b i d w4
   |j+2,h1,_=>
    have:j+2 < 2:=h1;omega
 . refine Y5 (.bl (!decide (a=c/\b=d))) H I ?_ k;show Value.bool (!(((a==c)&& ((b==d)&&true))&&true))=Value.bool (!decide (a=c/\b=d));congr 2;rw[Bool.and_true,Bool.and_true,Az];simp
end L2
namespace Tre
open PySem L2
theorem j7{t:Tr}(h:Ty .tm t):∃ts,t= .tup ts:=by
 cases h<;>exact⟨_,rfl⟩
end Tre
namespace Su
open PySem L2 Tre Mth Wd
theorem f8{f:α->β}{us vs:List β}(h:us.Perm vs):∀ {ps:List α},vs=ps.map f->∃qs:List α,us=qs.map f/\qs.Perm ps:=by
 induction h with
 |nil=>intro ps e;exact Y3 ([]) rfl (by cases ps with|nil=>exact .nil|cons p ps=>simp at e)
 |cons x _ b=>
  intro ps e
  cases ps with
  |nil=>simp at e
  |cons p ps=>
   rw[zh,Av]at e;obtain⟨qs,e1,a⟩:=b e.2;exact Y3 (p::qs) (by rw[zh,e1,e.1]) (a.cons p)
 |swap x y l=>
  intro ps e
  cases ps with
  |nil=>simp at e
  |cons p ps=>
   cases ps with
   |nil=>simp at e
   |cons q ps=>
    simp only[zh,Av]at e;obtain⟨e1,a,d⟩:=e;exact Y3 (q::p::ps) (by simp only[zh,e1,a,d]) (.swap p q ps)
 |trans _ _ h1 h2=>
  intro ps e;obtain⟨g,e1,c⟩:=h2 e;obtain⟨qs,a,p2⟩:=h1 e1;exact Y3 qs a (p2.trans c)
structure Gq (e:Nat) (p:Pq):Prop where
 ty:Ty .tm p.1
 dep:p.1.depth<=7
 gf:Gf e p.2
 sh:Sh p.2
theorem Gq.pr{e:Nat}{p:Pq}(h:Gq e p):Ty .pr (prT p)/\(prT p).depth<=8:=by
 refine⟨.pr _ _ h.ty (.fr _ _),?_⟩;have:=h.dep;unfold prT frT;simp only[Tr.depth,Trs.depth];omega
theorem aH{us:List α}{u:α}(e:us[i]?=some u):us.take (i+1)=us.take i++ [u]:=by
 rw[List.take_add_one,e];rfl
theorem uV{p:Fr}:(!decide (p.1=0/\p.2=1))=decide (p≠zero):=by
 by_cases h:p=zero
 . subst h;decide
 . have:¬(p.1=0/\p.2=1):=fun q=>h (Prod.ext q.1 q.2);simp[this,h]
noncomputable def scale(q:Fr)(p:Pq):Pq:=(p.1,gL p.2 q)
open Classical in
theorem oI(t:Tr){q:Fr}(hq:Sh q){ps:List Pq}(h:∀p∈ps,Sh p.2):tot t (ps.map (scale q))=tot t ps*rv q:=by
 induction ps with
 |nil=>simp only[List.map_nil,tot];grind
 |cons p r a=>
  simp only[zh,tot,a fun x m=>h x (yU _ m)];show(if p.1=t then rv (gL p.2 q)else 0)+_=_;rw[kj (h p yT) hq];by_cases z:p.1=t
  . simp only[if_pos z];grind
  . simp only[if_neg z];grind
end Su
namespace L2
open PySem PySem.Spec PyProof.Rows
theorem gO:∀ {ys:List Str} {us:List Value},Vals (ys.map V.str) us->StrsAre us ys
 | [],_,r=>by cases r;exact .nil
 |y::ys,_,r=>by
  rw[zh]at r
  cases r with
  |cons r1 r2=>
   obtain⟨t,rfl⟩:=r1;exact .cons y t (gO r2)
def yu(K:PySem.W.Frag):V->List V->Hp->VK->Prop:=fun x vs H Q=>∃(sep:Str) (l:Addr) (ys:List Str),x= .str sep/\vs= [.ref l]/\SqL K H l (ys.map V.str)/\(ys.map (·.length)).sum+ys.length*sep.length<=16777216/\Q (.str (Txt.join sep ys)) H
theorem uF:MtM X "str.join" (yu X.K):=by
 intro pins s σ H x vs v us Q I b rv h;obtain⟨sep,l,ys,rfl,rfl,hl,hz,q⟩:=h;obtain⟨t,rfl⟩:=b;obtain⟨u,rfl,a⟩:=rv.one;cases a;obtain⟨its,r,p,_⟩:=I.list hl;exact PyProof.Rows.join_list p.isList (by simpa using gO r) hz fun t' k=>Y5 (.str _) H (I.tok k) ⟨_,rfl⟩ q
end L2
namespace Dec
open PySem PySem.NumText L2 Mth
theorem len_app(x y:Str):(x++y).length=x.length+y.length:=by rw[<-cO,ik,zj,cO,cO]
end Dec
namespace Tw
open PySem L2 Tre Wd Mth Dec Su
mutual
noncomputable def tmC:Tr->List Nat
 | .tup (_:: .str x::r)=>match r with
  | []=>cl x
  |t::_=>40::cl x++tmK t++ [41]
 |_=> []
noncomputable def tmK:Tr->List Nat
 | .tup ts=>tmsC ts
 |_=> []
noncomputable def tmsC:List Tr->List Nat
 | []=> []
 |t::ts=>32::tmC t++tmsC ts
end
theorem eR(k x:Str):tmC (.tup [.str k, .str x])=cl x:=by rw[tmC]
theorem dH(k x:Str)(ts:List Tr):tmC (.tup [.str k, .str x, .tup ts])=40::cl x++tmsC ts++ [41]:=by rw[tmC,tmK]
noncomputable def spC(cs:List (List Nat)):List Nat:=(cs.map (32:: ·)).flatten
theorem eQ:∀ts,tmsC ts=spC (ts.map tmC)
 | []=>by rw[tmsC];rfl
 |t::ts=>by
  rw[tmsC,eQ ts];rfl
theorem uh(a b:List (List Nat)):spC (a++b)=spC a++spC b:=by
 unfold spC;rw[zd,List.flatten_append]
theorem nB{B:Nat}:∀ {cs:List (List Nat)},(∀c∈cs,c.length<=B)->(spC cs).length<=cs.length*(B+1)
 | [],_=>zc _
 |c::cs,h=>by
  have h1:=h c yT;have h2:=nB fun d m=>h d (yU c m);have e:spC (c::cs)=(32::c)++spC cs:=rfl;rw[e,zj,zg,zg,Nat.succ_mul];omega
theorem xZ:cl (Str.ofString " ")= [32]:=by decide +kernel
theorem yC:cl (Str.ofString "(")= [40]:=by decide +kernel
theorem yo:cl (Str.ofString ")")= [41]:=by decide +kernel
theorem l9(y:Str)(ys:List Str):cl (Txt.join (Str.ofString " ") (y::ys))=cl y++spC (ys.map cl):=by
 have e:Txt.join (Str.ofString " ") (y::ys)=Str.join (Str.ofString " ") (y::ys):=StrLaws.glued_eq_join _ _;rw[e];clear e
 induction ys generalizing y with
 |nil=>
  show cl y=cl y++spC [];simp[spC]
 |cons z ys a=>
  have b:Str.join (Str.ofString " ") (y::z::ys)=y++Str.ofString " "++Str.join (Str.ofString " ") (z::ys):=rfl;rw[b,ik,ik,xZ,a z];simp[spC]
theorem qw{B:Nat}:∀ {ys:List Str},(∀y∈ys,y.length<=B)->(ys.map (·.length)).sum<=ys.length*B
 | [],_=>zc _
 |y::ys,h=>by
  have h1:=h y yT;have h2:=qw fun z m=>h z (yU y m);simp only[zh,List.sum_cons,zg];rw[Nat.succ_mul];omega
open PyProof.Rows
end Tw
namespace Trm
open PySem
def Ltr(c:Nat):Prop:=97<=c/\c<=122
structure Nm (x:Str):Prop where
 pos:0 < x.length
 le:x.length<=8
 ltr:∀c∈x.cps.toList,Ltr c
def cl(x:Str):List Nat:=x.cps.toList
theorem cO(x:Str):(cl x).length=x.length:=by simp[cl,Str.length]
theorem nm_cl(h:Nm x):∃c l,cl x=c::l/\Ltr c:=by
 cases e:cl x with
 |nil=>
  have:=cO x;rw[e]at this;have:=h.pos;simp at*;omega
 |cons c l=>exact⟨c,l,rfl,h.ltr c (by show c∈cl x;rw[e];exact yT)⟩
end Trm
namespace Tw
open PySem L2 Tre Wd Mth Dec Su
abbrev Nm:=Trm.Nm
abbrev Ltr:=Trm.Ltr
inductive Lt:Tr->Prop
 |nm (x:Str):Nm x->Lt (.tup [s_ "name", .str x])
 |ap (f:Str) (ts:List Tr):Nm f->0 < ts.length->(∀t∈ts,Lt t)->Lt (.tup [s_ "call", .str f, .tup ts])
def St(Q:Nat->Prop)(r:List Nat):Prop:=∀c l,r=c::l->¬Q c
theorem lS{Q:Nat->Prop}:∀ {x y r s:List Nat},(∀c∈x,Q c)->(∀c∈y,Q c)->St Q r->St Q s->x++r=y++s->x=y/\r=s
 | [],[],_,_,_,_,_,_,e=>⟨rfl,e⟩
 | [],b::y,r,s,_,hy,hr,_,e=>absurd (hy b yT) (hr b _ e)
 |a::x,[],r,s,hx,_,_,hs,e=>absurd (hx a yT) (hs a _ e.symm)
 |a::x,b::y,r,s,hx,hy,hr,hs,e=>by
  rw[zK,zK]at e;obtain⟨e1,f⟩:=List.cons.inj e;obtain⟨g,d⟩:=lS (fun c m=>hx c (yU _ m)) (fun c m=>hy c (yU _ m)) hr hs f;exact⟨by rw[e1,g],d⟩
def En(r:List Nat):Prop:=∀c l,r=c::l->c=32\/c=41
theorem En.st{Q:Nat->Prop}{r:List Nat}(h:En r)(h1:¬Q 32)(h2:¬Q 41):St Q r:=fun c l e=>by
 rcases h c l e with rfl|rfl
 . exact h1
 . exact h2
theorem En.nil:En []:=fun c l e=>by cases e
theorem En.b(l:List Nat):En (32::l):=fun c m e=>by cases e;exact .inl rfl
theorem En.k(l:List Nat):En (41::l):=fun c m e=>by cases e;exact .inr rfl
theorem je(cs:List (List Nat))(r:List Nat):En (spC cs++41::r):=by
 cases cs with
 |nil=>exact En.k r
 |cons c cs=>exact En.b _
theorem nl32:¬Ltr 32:=by unfold Ltr Trm.Ltr;omega
theorem nl41:¬Ltr 41:=by unfold Ltr Trm.Ltr;omega
theorem qH{α:Type}(c:α->List Nat){Q:α->Prop}:∀ {ts us:List α} {r s:List Nat},(∀t∈ts,∀u,Q u->∀r s,En r->En s->c t++r=c u++s->t=u/\r=s)->(∀u∈us,Q u)->
 spC (ts.map c)++41::r=spC (us.map c)++41::s->ts=us/\r=s
 | [],[],r,s,_,_,e=>by
  simp only[spC,List.map_nil,List.flatten_nil,List.nil_append]at e;exact⟨rfl,(List.cons.inj e).2⟩
 | [],u::us,r,s,_,_,e=>by
  have e':41::r=32::(c u++spC (us.map c)++41::s):=by simpa [spC]using e
  cases e'
 |t::ts,[],r,s,_,_,e=>by
  have e':32::(c t++spC (ts.map c)++41::r)=41::s:=by simpa [spC]using e
  cases e'
 |t::ts,u::us,r,s,ht,hu,e=>by
  have e':32::(c t++(spC (ts.map c)++41::r))=32::(c u++(spC (us.map c)++41::s)):=by simpa [spC]using e
  obtain⟨e1,b⟩:=ht t yT u (hu u yT) _ _ (je _ _) (je _ _) (List.cons.inj e').2;obtain⟨d,a⟩:=qH c (fun t m=>ht t (yU _ m)) (fun u m=>hu u (yU _ m)) b;exact⟨by rw[e1,d],a⟩
theorem nm_cl{x:Str}(h:Nm x):∃c l,cl x=c::l/\Ltr c:=Trm.nm_cl h
theorem ju(h:Nm x):∀c∈cl x,Ltr c:=h.ltr
theorem vP{t:Tr}(h:Lt t):∀(u:Tr),Lt u->∀(r s:List Nat),En r->En s->tmC t++r=tmC u++s->t=u/\r=s:=by
 induction h with
 |nm x hx=>
  intro u hu r s hr hs e
  cases hu with
  |nm y hy=>
   unfold s_ at e ⊢;rw[eR,eR]at e;obtain⟨e1,a⟩:=lS (ju hx) (ju hy) (hr.st nl32 nl41) (hs.st nl32 nl41) e;exact⟨by rw[cl_inj e1],a⟩
  |ap g us b h0 hu=>
   unfold s_ at e;rw[eR,dH]at e;obtain⟨c,l,q,hc⟩:=nm_cl hx;rw[q,zK]at e;have:c=40:=(List.cons.inj e).1;subst this;unfold Ltr Trm.Ltr at hc;omega
 |ap f ts j h0 ht m=>
  intro u hu r s hr hs e
  cases hu with
  |nm y hy=>
   unfold s_ at e;rw[eR,dH]at e;obtain⟨c,l,q,hc⟩:=nm_cl hy;rw[q,zK]at e;have:40=c:=(List.cons.inj e).1;subst this;unfold Ltr Trm.Ltr at hc;omega
  |ap g us b k hu=>
   unfold s_ at e ⊢;rw[dH,dH,eQ,eQ]at e;have e':cl f++(spC (ts.map tmC)++41::r)=cl g++(spC (us.map tmC)++41::s):=by simpa using e
   obtain⟨e1,a⟩:=lS (ju j) (ju b) ((je _ _).st nl32 nl41) ((je _ _).st nl32 nl41) e';obtain⟨d,i⟩:=qH tmC m hu a;exact⟨by rw[cl_inj e1,d],i⟩
end Tw
namespace Fm
open PySem L2 Tre Wd Mth Dec Su Tw
inductive Gt:Tr->Prop
 |nm (x:Str):Nm x->Gt (.tup [s_ "name", .str x])
 |ap (f:Str) (ts:List Tr):Nm f->0 < ts.length->ts.length<=3->(∀t∈ts,Gt t)->Gt (.tup [s_ "call", .str f, .tup ts])
variable{us:List Tr}{t:Tr}
theorem Gt.lt(h:Gt t):Lt t:=by
 induction h with
 |nm x hx=>exact .nm x hx
 |ap f ts b h0 h3 _ a=>exact .ap f ts b h0 a
theorem Gt.ty(h:Gt t):Ty .tm t:=by
 induction h with
 |nm x hx=>exact .nm x
 |ap f ts b h0 h3 _ a=>exact .ap f ts h3 a
theorem Gt.inj{t u:Tr}(h:Gt t)(h':Gt u)(e:tmC t=tmC u):t=u:=(vP h.lt u h'.lt [] [] En.nil En.nil (by rw[e])).1
theorem ge{α:Type}:∀ {l U:List α},l.Nodup->(∀x∈l,x∈U)->l.length<=U.length
 | [],U,_,_=>zc _
 |x::l,U,h,hs=>by
  obtain⟨h1,h2⟩:=Ab.mp h;obtain⟨a,b,rfl⟩:=List.append_of_mem (hs x yT)
  have:l.length<=(a++b).length:=ge h2 fun y c=>by
   have:=hs y (yU _ c);simp only[zw,yY]at this ⊢;rcases this with h|rfl|h
   . exact .inl h
   . exact absurd c h1
   . exact .inr h
  simp only[zj,zg]at this ⊢;omega
open Classical in
noncomputable def ix(us:List Tr)(t:Tr):Nat:=us.findIdx fun x=>decide (x=t)
open Classical in
theorem kG(m:t∈us):us[ix us t]?=some t:=by
 unfold ix;have h:us.findIdx (fun x=>decide (x=t)) < us.length:=List.findIdx_lt_length_of_exists ⟨t,m,by simp⟩
 have:=List.findIdx_getElem (w:=h);rw[yS h];exact congrArg some (of_decide_eq_true this)
theorem yF(m:t∈us):ix us t < us.length:=(yZ.mp (kG m)).1
theorem ss{l:List α}(h:l.Nodup){x:α}(h1:l[i]?=some x)(h2:l[j]?=some x):i=j:=by
 obtain⟨hi,e1⟩:=yZ.mp h1;obtain⟨a,b⟩:=yZ.mp h2;have n:=Ag.mp h;rw[A7]at n;rcases Nat.lt_trichotomy i j with q|q|q
 . exact absurd (e1.trans b.symm) (n i j hi a q)
 . exact q
 . exact absurd (b.trans e1.symm) (n j i a hi q)
theorem ix_eq(nd:us.Nodup)(e:us[i]?=some t):ix us t=i:=ss nd (kG (z5 e)) e
end Fm
namespace PySem
theorem Draws.shift{P:Nat->Value->Prop}{St:Nat->Heap->Prop}(D:Draws prog w A it fp n P St)(k:Nat):Draws prog w A it fp (k+n) (fun i v=>P (i - k) v) (fun i h=>k<=i/\St (i - k) h) where
 live:=fun _ _ st=>D.live _ _ st.2
 frame:=fun _ _ _ st kp=>⟨st.1,D.frame _ _ _ st.2 kp⟩
 item:=fun i s Q E hi st b=>D.item (i - k) s Q E (by have:=st.1;omega) st.2 fun x h' tk p a sb=>b x h' tk p ⟨by have:=st.1;omega,by rw[show i+1 - k=i - k+1 by have:=st.1;omega];exact a⟩ sb
 done:=fun s Q E st c=>D.done s Q E (by have:=st.2;rwa [show k+n - k=n by omega]at this) c
end PySem
namespace L2
open PySem PySem.Spec PyProof.Rows
def IteS(K:PySem.W.Frag)(a:Addr)(k:Nat):It:=
 ⟨fun i H=>∃xs x,SqL K H a xs/\xs[i]?=some x,
  fun i H v H'=>∃T x,v= .ref T/\H T=none/\H'=upd H T (.tup [.int ((k+i:Nat):Int),x])/\(∀xs,SqL K H a xs->xs[i]?=some x)/\i < sizeLine,
  fun i H=>∃xs,SqL K H a xs/\xs.length<=i⟩
theorem gJ{pos:Pos}(k:Nat)(a e it:Addr)(hd:e≠it):
 Turn P w K (.Tuple es kk pos) (IteS K a k) [e,it] e (fun i h=>(∃old,IsEnum h e it ((k+i:Nat):Int) old)/\h.IsListIter it a i/\a∉ [e,it]) where
 mem:=by simp
 obj:=fun i h ⟨⟨u,h1⟩,h2,_⟩ c hc=>by
  simp only[yY,zf,or_false]at hc;rcases hc with rfl|rfl
  . exact Y3 _ h1 (fun v e=>by cases (show Data.fields _=Data.cell v from e))
  . refine hZq fun q_ e_=>?_;obtain⟨o,e1,_,e3⟩:=h2;subst e_;exact Y3 o e1 (fun v e=>by rw[e3]at e;cases e)
 keep:=fun i h h' ⟨⟨u,h1⟩,h2,h3⟩ kp=>⟨⟨u,kp e (by simp) _ h1⟩,h2.at fun o x=>kp it (by simp) o x,h3⟩
 item:=by
  intro X hP hw hK hc i pins s σ H E I p ⟨⟨u0,h1⟩,h2,t⟩ hg;subst hP hw hK;refine hZq fun q_ e_=>?_;obtain⟨xs,x,j,l⟩:=hg;obtain⟨as,r1,r,z1⟩:=I.list j;obtain⟨u,e1,q1⟩:=r1.get l;subst e_;have r:=r.isList;have ao:=t;simp only[yY,zf,or_false,not_or]at t;have il:i < as.toArray.size:=by simpa using (yZ.mp e1).1
  refine wpAny_pyNext_enum_itemD (i:=k+i) ((Draws.list (A:=X.A.in1) (I.ok.hd hc) it a t.2 as.toArray).shift k) h1 ⟨by omega,by rw[show k+i - k=i by omega];exact⟨h2,r⟩⟩ (by omega) hd
   (by simp only[yY,zf,or_false,not_or];exact⟨hd,Ne.symm t.1⟩) fun y h' tk py a1 au a5 a6 up=>Y3 _ rfl ?_
  have ey:y=u:=by
   rw[show k+i - k=i by omega]at py
   have:as.toArray[i]?=some u:=by simpa using e1
   rw[this]at py;exact(z9 py).symm
  subst ey
  have a3:h'.IsListIter it a (i+1):=by
   have:=au.2.1
   rwa [show k+i+1 - k=i+1 by omega]at this
  refine wpAny_letOwnedTupleGo_enum (s:= {s with heap:=h',toks:=tk+1}) a1 fun g b1 sb=>?_;have fr:H s.heap.objs.size=none:=I.hok.fresh (yV _);have lt:∀ {c:Addr} {o:Obj},s.heap.get? c=some o->c≠s.heap.objs.size:=fun e=>zo (Heap.lt_size e)
  have all:∀c o,c∉ [e,it]->s.heap.get? c=some o->g.get? c=some o:=fun c o n f=>by
   simp only[yY,zf,or_false,not_or]at n;exact sb.extBut c o n.1 (up c o n.1 n.2 f)
  have nz:s.heap.objs.size≠e:=(lt h1).symm;have pT:g.get? s.heap.objs.size=some {cls:= .type "tuple",data:= .seq #[.int ((k+i:Nat):Int) tk,y]}:=sb.extBut _ _ nz a5
  have fp:∀b∈ [e,it],upd H s.heap.objs.size (.tup [.int ((k+i:Nat):Int),x]) b=none:=fun c hc=>by
   have nc:c≠s.heap.objs.size:=by
    simp only[yY,zf,or_false]at hc;rcases hc with rfl|rfl
    . exact lt h1
    . obtain⟨o,f,_⟩:=h2;exact lt f
   rw[ae nc];exact(p c hc).1
  refine Y4 (.ref s.heap.objs.size) (upd H s.heap.objs.size (.tup [.int ((k+i:Nat):Int),x])) ⟨?_,rfl,(Y4 _ x ⟨rfl,fr,rfl,fun zs hz=>?_,ze (yZ.mp l).1 z1⟩),⟨⟨y,by simpa [Int.add_assoc]using b1⟩,?_,?_⟩,fp⟩
  ·
   refine I.call' (s':= {s with heap:=g,toks:=tk+1}) (ch:= [e,it]) rfl ⟨fun b o e _ _ hx=>all b o hx e,fun b o e _ _ hx=>⟨o.slots,all b o hx e⟩,fun c o e n _=>by rw[ae (lt e)];exact n,fun b o e hx=>⟨o,all b o hx e⟩,fun c zs e=>by rw[ae (ay e fr)];exact e,fun c o zs e=>by rw[ae (ay e fr)];exact e,fun c ps e=>⟨#[],by rw[ae (ay e fr),e];simp⟩⟩ ?_ I.bare fun b hb=>?_
   . intro c o f;by_cases z:c=s.heap.objs.size
     . subst z;rw[a8]at f;cases f;exact⟨by show 2<=sizeLine;decide,Y3 ([.int ((k+i:Nat):Int) tk,y]) (.cons ⟨_,rfl⟩ (.cons q1 .nil)) (J6 _ pT rfl _ rfl)⟩
     . rw[ae z]at f;have nb:∀c u,H c=some u->c∉ [e,it]:=fun c u e hz=>by rw[(p c hz).1]at e;cases e
       refine(I.hok c o f).stay (fun d v hc q=>all d v ?_ q) (fun d q=>?_) fun d m q=>?_
       . rcases hc with hz|hz
         . rw[hz];exact nb c o f
         . exact nb d _ hz
       . rw[ae (ay q fr)];exact q
       . rw[ae (ay q fr)];exact q
   . refine hZq fun q_ e_=>?_;obtain⟨g0,j,g2,l,g4,g5⟩:=p b hb;subst e_;exact⟨l,j,g4,g5⟩
  . rw[I.list_inj hz j];exact l
  . exact a3.extBut sb.extBut hd.symm
  . exact ao
 done:=by
  intro X hP hw hK hc i pins s σ H E I p ⟨⟨u0,h1⟩,h2,t⟩ hg;subst hP hw hK;refine hZq fun q_ e_=>?_;obtain⟨xs,j,l⟩:=hg;obtain⟨as,r1,r,z1⟩:=I.list j;subst e_;have hl:=r1.length;have hT:s.TypeIs (.ref e) "enumerate":=Y3 _ h1 rfl;unfold pyNext
  refine wpAny_bind (wpAny_attempt (wpAny_callSpecial?_slot (name:=Str.ofString "__next__") hT F.slot_enumerate_next
   (wpAny_call_entry F.slot_enumerate_next hT F.entry_enumerate_next ?_ (F.args_enumerate_next_1 _))))
  show wpAny _ _ (field (.ref e) 2 >>=_) _ _ _;refine wpAny_bind (wpAny_field h1 rfl (x:= .ref it) rfl ?_);refine wpAny_bind (wpAny_nextOf_list_end (I.ok.hd hc) h2 r.isList (by simp;omega) fun h' x up hx'=>?_)
  obtain⟨o,ho,ai⟩:=hx';refine wpAny_bind (wpAny_isInstance (T:="StopIteration") (b:=true) (Y3 o ho ai) isSubtype_stop ?_);refine wpAny_pure ⟨rfl,I.turneds (t':=s.toks) (fun c o n f=>?_) p⟩;simp only[yY,zf,or_false,not_or]at n;exact up c o n.2 f
 self:=fun _ _ _ _ _ st h=>by
  obtain⟨⟨u,h1⟩,_⟩:=st;exact wpAny_pyIter_enum h1 h
theorem Turn.of{J J':It}(T:Turn P w K tg J fp it tn)(hg:∀i H,J'.go i H->J.go i H)(hs:∀i H,J'.stop i H->J.stop i H)(hy:∀i H x H',J.yld i H x H'->J'.yld i H x H'):Turn P w K tg J' fp it tn:=
 {T with
  item:=fun X c hw a hc i pins s σ H E I b st g=>thn (T.item X c hw a hc i pins s σ H E I b st (hg i H g)) fun r s1 ⟨u,e,h⟩=>Y3 u e (thn h fun _ f ⟨x,H',d,r',y,z⟩=>Y7 x H' d r' (hy i H x H' y) z)
  done:=fun X c hw a hc i pins s σ H E I b st g=>T.done X c hw a hc i pins s σ H E I b st (hs i H g)}
def Ite(K:PySem.W.Frag)(a:Addr):It:=
 ⟨fun i H=>∃xs x,SqL K H a xs/\xs[i]?=some x,
  fun i H v H'=>∃T x,v= .ref T/\H T=none/\H'=upd H T (.tup [.int i,x])/\(∀xs,SqL K H a xs->xs[i]?=some x)/\i < sizeLine,
  fun i H=>∃xs,SqL K H a xs/\xs.length<=i⟩
def vH(K:PySem.W.Frag)(ta:TA):TI:=fun σ H R=>ta σ H fun vs H1=>∃a xs,vs= [.ref a]/\SqL K H1 a xs/\R (Ite K a) H1
theorem nO{pt:Pos}{x:Expr}{pos:Pos}(hg:Gl X "enumerate")(hm:X.mg "enumerate"=none)(ha:PA X [x] ta)(hs:starEach [x] X.env= [(false,eval x X.env)]:=by rfl):
 PI X (.Tuple es kk pt) (.Call (.Name "enumerate" p) [x] [] pos) (vH X.K ta):=by
 intro pins s σ H R I h;refine Call_ (dB I hg hm PyProof.Rows.boot_enumerate (PyProof.Rows.callWith_type1 (thn (ha pos pins s σ H _ I h) fun us s1 ⟨vs,H1,d,r1,m⟩=>?_) (by rw[hs];rfl) rfl))
 obtain⟨a,xs,e,k1,q⟩:=m;subst e
 cases r1 with
 |cons r t=>
  cases t;cases r;obtain⟨as,_,b,_⟩:=d.list k1;have b:=b.isList
  have f:a < s1.heap.objs.size:=by
   obtain⟨o,e,_⟩:=b;exact Heap.lt_size e
  refine call_enumerate_list b fun h' h1 h2 sz up=>?_;refine wpAny_pyIter_enum (s:= {s1 with heap:=h'}) h1 ?_;have g:∀j,a≠s1.heap.objs.size+j:=fun j=>zo (ze f (AC ..))
  have le:∀c∈ [s1.heap.objs.size+1,s1.heap.objs.size+0],s1.heap.objs.size<=c:=fun c hc=>by
   simp only[yY,zf,or_false]at hc;rcases hc with rfl|rfl<;>exact AC ..
  refine O6 (s1.heap.objs.size+1) ([s1.heap.objs.size+1,s1.heap.objs.size+0]) _ (Ite X.K a) H1 rfl (d.kept (t':=s1.toks) up) ((gJ 0 a _ _ (by simp)).of (fun _ _ h=>h) (fun _ _ h=>h) fun i H v H' ⟨T,x,y1,n,k,l⟩=>(Y7 T x y1 n (by rw[Nat.zero_add]at k;exact k) l)) ⟨⟨_,h1⟩,h2,?_⟩ (fun c hc=>d.fpOk (le c hc) (d.hok.fresh (le c hc))) q
  simp only[yY,zf,or_false,not_or];exact⟨g 1,g 0⟩
end L2
namespace L2
open PySem PySem.Spec PyProof.Rows
def lK(mp:List (Option Nat))(wi:TI)(g:TG)(tc:TT)(tk te:TE):TE:=fun σ H Q=>wi σ H fun J H1=>∀D,H1 D=none->
 ∃W:Nat->Nat->List (Key×V)->Hp->Prop,(∃m,W 0 m [] (upd H1 D (.dK [])))/\∀i m acc H2,W i m acc H2->
  (J.stop i H2/\Q (.ref D) H2)\/
  (J.go i H2/\∀x H3,J.yld i H2 x H3->g x (subS mp σ) H3 fun σ4 H4=>Ext (subS mp σ) σ4/\tc σ4 H4 fun b H5=>if b=true then tk σ4 H5 fun y H6=>∃k,y=kV k/\te σ4 H6 fun v H7=>H7 D=some (.dK acc)/\acc.length < sizeLine/\∃m',m' < m/\W (i+1) m' (putK acc k v) (upd H7 D (.dK (putK acc k v)))
   else∃m',m' < m/\W (i+1) m' acc H5)
noncomputable def qF(kx vx:Expr)(D:Addr)(env:Env):Sem Unit:=do
 let kv<-eval kx env
 let vv<-holding [kv] (eval vx env)
 standAt {kx.pos with endLine:=vx.pos.endLine,endCol:=vx.pos.endCol}
 holding [kv,vv] (dictSet D kv vv)
theorem mT{M:Model}{Q:Unit->Shared->Prop}(h:wpAny M A (eval kx env) (fun kv s₁=>wpAny M A (eval vx env) (fun vv s₂=>wpAny M A (dictSet D kv vv) Q E s₂) E s₁) E s):wpAny M A (qF kx vx D env) Q E s:=
 wpAny_bind (wpAny_mono h (fun kv s₁ a=>wpAny_bind (wpAny_holding (wpAny_mono a (fun vv s₂ b=>wpAny_bind (wpAny_standAt (wpAny_holding b))) fun _ _ e=>e))) fun _ _ e=>e)
theorem rZ{pos:Pos}{g:TG}(hcalm:X.calm=true)(hi:PI X target iter wi)(hg:∀C s H fp pn,PG (XC X scope NC C s H fp pn) target g)(ht:∀C s H fp pn,PTs (XC X scope NC C s H fp pn) ifs tc)(hkx:∀C s H fp pn,PE (XC X scope NC C s H fp pn) kx tk)(he:∀C s H fp pn,PE (XC X scope NC C s H fp pn) vx te)(hl:mp.length=NC.length:=by rfl)(hm:fP X.N NC mp scope.names X.env.scope.names=true:=by rfl)(hc:bL scope.names X.env.cells=true:=by rfl)(hk:scope.kind= .function:=by rfl)(hnc:∀y∈scope.names,y.2≠ .cell:=by decide +kernel)(hnm:∀y∈scope.names,y.2= .local->scope.names.lookup y.1=some .local:=by decide +kernel)(hs:∀x,foldedSetIterable iter X.env x=pure x:=by intro _;rfl):
 PE X (.DictComp kx vx [⟨target,iter,ifs,0⟩] scope pos) (lK mp wi g tc tk te):=by
 intro pins s σ H Q I h;rw[arm_eval_DictComp];refine wpAny_comprehension_free (use:=none) rfl hs (gE hc) hk hnm (thn (hi pins s σ H _ I h) fun v s1 h1=>thn h1 fun a2 c h2=>?_);refine hZq fun q_ e_=>?_;obtain⟨it,fp,tn,J,H2,e,u,T,ao,f2,W⟩:=h2;subst e_;subst e;refine wpAny_newObj_type ?_;refine hZq fun q_ e_=>?_;obtain⟨W,⟨m0,w0⟩,turn⟩:=W _ (u.hok.fresh (yV _));subst e_
 refine wpAny_mono (dP (e:= .DictComp kx vx [⟨target,iter,ifs,0⟩] scope pos) (b0:= .dK []) (R:=compPost (model X.prog X.w) X.A X.xe none (EP X pins σ Q) (.ref c.heap.objs.size)) (M:=qF kx vx c.heap.objs.size) hcalm hg ht hl hm hc hk hnc u T ao f2 (kQ c.heap u.big) w0 turn (fun _=>⟨rfl,fun _ _=>rfl,fun _=>rfl⟩) ?_
  fun s3 H3 I3 f3 s5 σ5 H5 I5 q=>ig (v:= .ref c.heap.objs.size) I3 f3 I5 rfl q)
  (fun a0 s4 ⟨st,loop⟩=>codeAny_compStart_dict loop (T.self _ 0 _ _ _ st loop)) fun _ _ e=>e
 intro C s H pn aB s9 σ8 H9 i m acc I9 q9;refine mT (thn (hkx _ _ _ _ _ _ s9 σ8 H9 _ I9 q9) fun kv t ⟨y,r,ai,p,k,ek,qv⟩=>?_);subst ek;refine thn (he _ _ _ _ _ _ t σ8 r _ ai qv) fun v a3 ⟨z,a1,d,o,b,hz,m',l,w'⟩=>?_;refine hZq fun q_ e_=>?_;obtain⟨z1,aC,au,a,n⟩:=oq d.hok b;subst e_;have j:au.length<=sizeLine:=by rw[<-a.length];exact z1
 have aA:(putK acc k z).length<=sizeLine:=by have:=fT acc k z;omega
 refine wpAny_dictSet_pairs (hsz:=j) (o9 p) n fun h' f hs=>?_;have aT:∃q,h'.get? c.heap.objs.size=some q:=let ⟨q,_,_,hq,_⟩:=f;⟨q,hq⟩;exact J2 _ m' _ (gA d (by rw[b];exact True.intro) hs aT (tD aA aC (a.put k o) f)) l w'
end L2
namespace Dj
open PySem PySem.Spec PySem.W PyProof.Rows L2 Tre
def RawD(h:Heap)(d:Addr)(es:Array DictEntry)(ep:Nat):Prop:=∃o,h.get? d=some o/\o.ExactDict/\o.data= .dict es ep
theorem RawD.ty{es:Array DictEntry}(x:RawD s.heap d es ep):s.TypeIs (.ref d) "dict":=by
 obtain⟨o,h1,h2,_⟩:=x;exact⟨o,h1,h2.1⟩
open Srt
theorem kY{P:Nat->Value->Prop}{OK:Heap->Prop}{Q:List Value->Shared->Prop}(K:KdlSrc prog w T r d n P OK)(hh:A.handled=none)(hok:OK s.heap)(hn:n<=sizeLine)(hQ:∀h' tk (acc:Array Value),(∀b o,s.heap.get? b=some o->h'.get? b=some o)->s.heap.objs.size < h'.objs.size->ItemsOf P acc n->Q acc.toList {s with heap:=h',toks:=tk}):wpAny (model prog w) A (collect (.ref r)) Q E s:=by
 have c:=K.there _ hok;unfold collect;refine wpAny_bind (wpAny_runValue (codeAny_builtin PySem.F.entry_proto_collect ?_));rw[Around.under_plainId PySem.F.plain_proto_collect _];show wpAny _ A.in1 (newList [] >>=fun l=>again (.builtin "list.__iadd__" ⟨[l, .ref r],[]⟩)) _ _ s;refine wpAny_bind (wpAny_newObj_type (wpAny_pure ⟨plainId_quiet PySem.F.plain_list_iadd _,codeAny_builtin PySem.F.entry_list_iadd ?_⟩));rw[Around.under_plainId PySem.F.plain_list_iadd _];have i:(s.heap.push {cls:= .type "list",data:= .seq ([]:List Value).toArray}).get? s.heap.objs.size=some {cls:= .type "list",data:= .seq ([]:List Value).toArray}:=Heap.get?_push_size _ rfl;show wpAny _ A.in1 (Builtin.List.listExtendWith (.ref s.heap.objs.size) (.ref r) (.ref s.heap.objs.size)) _ _ _
 refine kdl_extend (R:=fun r' s'=>match r' with
  | .ok (.ret v)=>wpAny (model prog w) A (match v with
   | .ref a=>do match (<-load a).data with
    | .seq xs _=>pure xs.toList
    |_=>unsupported "internal:collect"
   |_=>unsupported "internal:collect") Q E s'
  | .ok _=>False
  | .error e=>E e s') (s:= {s with heap:=s.heap.push {cls:= .type "list",data:= .seq ([]:List Value).toArray}}) K hh (K.keep _ _ hok fun b _ o e=>Heap.get?_push_of_some _ e) _ (Nat.ne_of_gt c.1) (Nat.ne_of_gt c.2) _ _ i (fun h' tk f c' hk h g=>?_) hn
 show wpAny _ A (load s.heap.objs.size >>=_) _ _ _;refine wpAny_bind (wpAny_load h (wpAny_pure (hQ h' tk f (fun b o e=>hk b o (zo (Heap.lt_size e)) (Heap.get?_push_of_some _ e)) (Heap.lt_size h) g)))
theorem oN{lt:Nat->Nat->Bool}{κ:SortKind}{vs:List Value}(O:Ord lt)(h64:vs.length < 64)(hcol:∀Q':List Value->Shared->Prop,(∀h' tk,(∀b o,s.heap.get? b=some o->h'.get? b=some o)->s.heap.objs.size < h'.objs.size->Q' vs {s with heap:=h',toks:=tk})->wpAny (model prog w) A.in1 (collect (.ref l)) Q' E s)(hkind:2<=vs.length->∀h' tk,(∀b o,s.heap.get? b=some o->h'.get? b=some o)->∀(E':Value->Shared->Prop) (R:SortKind->Shared->Prop),R κ {s with heap:=h',toks:=tk}->wpAny (model prog w) A.in1.in1 (keyKind' vs.toArray) R E' {s with heap:=h',toks:=tk})(hask:∀h' tk,(∀b o,s.heap.get? b=some o->h'.get? b=some o)->∀i j (R:Bool->Shared->Prop),i < vs.length->j < vs.length->R (lt i j) {s with heap:=h',toks:=tk}->kas_ask prog w A.in1.in1 κ vs i j R {s with heap:=h',toks:=tk})(h:∀p:Array Nat,Pm vs.length p->Up lt p vs.length->∀h' tk D e,(∀b o,s.heap.get? b=some o->h'.get? b=some o)->s.heap.objs.size<=D->h'.get? D=some (seqObj "list" (List.toArray (p.toList.map fun i=>vs.getD i Value.none)) e)->Q (.ref D) {s with heap:=h',toks:=tk}):
 wpAny (model prog w) A (call (.builtin "sorted") [.ref l]) Q E s:=by
 refine Calls.call_function_entry kind_sorted plain_sorted entry_sorted (args_sorted1 _) ?_;unfold Builtin.«sorted»;refine wpAny_bind (m:=checkCount "sorted" 1 1 _) (wpAny_pure (wpAny_bind (hcol _ fun h1 tk k1 sz=>?_)));refine wpAny_bind (wpAny_newList (s:= {s with heap:=h1,toks:=tk}) ?_ (by rw[sizeLine_eq];omega))
 have a:(h1.push (seqObj "list" vs.toArray 0)).get? h1.objs.size=some (seqObj "list" vs.toArray 0):=Heap.get?_push_size _ rfl;have keep:∀b o,s.heap.get? b=some o->(h1.push (seqObj "list" vs.toArray 0)).get? b=some o/\b≠h1.objs.size:=fun b o q=>⟨Heap.get?_push_of_some _ (k1 b o q),zo (Heap.lt_size (k1 b o q))⟩;show wpAny _ _ _ _ _ {s with heap:=h1.push (seqObj "list" vs.toArray 0),toks:=tk}
 refine wpAny_bind (wpAny_holding (wpAny_call_entry slot_list_sort (Y3 _ a rfl) entry_list_sort (iC (s:= {s with heap:=h1.push (seqObj "list" vs.toArray 0),toks:=tk}) (lt:=lt) (κ:=κ) O a h64 (fun h2 h' st R c=>hkind h2 h' tk (fun b o e=>st b o (keep b o e).2 (keep b o e).1) _ R c)
  (fun h' st i j R hi d c=>hask h' tk (fun b o e=>st b o (keep b o e).2 (keep b o e).1) i j R hi d c) fun p g f=>Y3 _ rfl ?_) (args_list_sort _)))
 obtain⟨e,he⟩:=sortedHeap_at (out:=List.toArray (p.toList.map fun i=>vs.getD i Value.none)) a;refine wpAny_pure (Y3 _ rfl (h p g f _ tk _ e (fun b o q=>?_) (Nat.le_of_lt sz) he));rw[sortedHeap_old (keep b o q).2 (Heap.lt_size (keep b o q).1)];exact(keep b o q).1
theorem jD{prog:Program}{w:World}{A:Around}{s:Shared}{fin:Bool}{Q:Bool->Shared->Prop}:∀ {as bs:List Value} {q:List (Bool×Bool)} {i:Nat},0 < i->bD A s as bs q->Q (lexV fin q) s->KatLex prog w A true fin Q (as.zip bs) i s
 | [],_,q,i,_,h,hq=>by
  unfold bD at h;subst h;rw[List.zip_nil_left];exact kat_nil hq
 |_::_,[],q,i,_,h,hq=>by
  unfold bD at h;subst h;rw[List.zip_nil_right];exact kat_nil hq
 |a::as,b::bs,[],i,_,h,hq=>h.elim
 |a::as,b::bs,(e,l)::q,i,h0,h,hq=>by
  obtain⟨h1,h2,h3⟩:=h;rw[Ae];refine kat_cons (h1 prog w _ _ ?_)
  cases e with
  |true=>exact kat_yes (jD (by omega) (h3 rfl) hq)
  |false=>
   refine kat_no ?_
   have c:(true&&i==0)=false:=by
    cases i with
    |zero=>omega
    |succ i=>rfl
   rw[c];exact kat_one a b (h2 rfl prog w _ _ hq)
theorem uN{Q:Bool->Shared->Prop}{y:Str}{t u:Tok}{bs:List Value}(h:bD A s as bs q)(hq:Q (lexV fin ((x==y,decide (x.cps.toList < y.cps.toList))::q)) s):KatLex prog w A true fin Q ((Value.str x t::as).zip (Value.str y u::bs)) 0 s:=by
 rw[Ae];refine kat_cons (SeqAt.EqAt.str_str x t y u prog w _ _ ?_)
 cases e:(x==y)with
 |true=>
  rw[e]at hq;exact kat_yes (jD (by decide) h hq)
 |false=>
  rw[e]at hq;refine kat_no ?_;exact oneLt_str hq
def Hs(t:Tr):Prop:=∃x r,t= .tup (.str x::r)
theorem o3(I:Inv X pins σ H s):∀ {vs:List V} {ts:List Tr} {as:List Value},TrsAt H vs ts->Vals vs as->(∀t∈ts,Hs t)->∃fs,KatTups s.heap as fs/\fs.length=as.length/\∀v∈fs,∃(x:Str) (t:Tok),v= .str x t
 |vs,[],as,h,r,_=>by
  unfold TrsAt at h;subst h;cases r;exact Y8 ([]) (.nil) rfl (fun v m=>by cases m)
 |vs,t::ts,as,h,r,hh=>by
  obtain⟨v,p,rfl,h1,h2⟩:=h.inv
  cases r with
  |cons r1 r2=>
   obtain⟨fs,f,d,c⟩:=o3 I h2 r2 fun u m=>hh u (yU _ m);obtain⟨x,l,rfl⟩:=hh t yT;unfold TrAt at h1;obtain⟨a,ws,rfl,g,k⟩:=h1;cases r1;obtain⟨y,i,rfl,k1,k2⟩:=k.inv;unfold TrAt at k1;subst k1;obtain⟨bs,o,n,b,ho,hc,hd⟩:=bX I g
   cases b with
   |cons b j=>
    obtain⟨tk,rfl⟩:=b;refine Y8 _ (KatTups.cons ho hc hd rfl f) (by simp[d]) (fun v m=>?_)
    rcases yY.mp m with e|m
    . exact Y4 x tk e
    . exact c v m
end Dj
namespace L2
open PySem PySem.Spec PyProof.Rows
def yt:V->List V->Hp->VK->Prop:=fun x vs H Q=>∃a kvs k v,x= .ref a/\vs= [kV k,v]/\H a=some (.dK kvs)/\kvs.length < sizeLine/\
 (∀z,valV kvs k=some z->Q z H)/\(valV kvs k=none->Q v (upd H a (.dK (kvs++ [(k,v)]))))
theorem iB:MtM X "dict.setdefault" yt:=by
 intro pins s σ H x vs u us Q I i rv h;obtain⟨a,kvs,k,v,rfl,rfl,f,hz,h1,h2⟩:=h;cases i;obtain⟨j,g,rfl,r1,r2⟩:=rv.two;obtain⟨z,hd,ws,c,dd⟩:=oq I.hok f
 refine call_meetsIn PySem.F.slot_dict_setdefault dd.typeIs PySem.F.entry_dict_setdefault (PySem.F.args_dict_setdefault_3 _ _ _) (kt_meets_setdefault (aO X.prog X.w) a (o9 r1) hd g)
  (U8 ws dd (by rw[<-c.length];exact z) (fun q hq=>?_) (fun hq h' d hs=>?_))
 . have b:=c.val k;rw[hq]at b
   cases e:valV kvs k with
   |none=>rw[e]at b;exact b.elim
   |some y=>rw[e]at b;exact Y5 y H (I.tok _) b (h1 y e)
 . have b:=c.val k;rw[hq]at b
   cases e:valV kvs k with
   |some y=>rw[e]at b;exact b.elim
   |none=>
    have he:∃q,h'.get? a=some q:=let ⟨q,_,_,hq,_⟩:=d;⟨q,hq⟩;have hp:=c.put k r2;rw[rH v e]at hp;exact Y5 v _ (gA I (by rw[f];exact True.intro) hs he (tD (by rw[zj,List.length_singleton];omega) hd hp d)) r2 (h2 e)
noncomputable def j3(v d:Addr):HO:= .ext fun h=>h.IsValuesView v d
theorem u6{v:Addr}(x:h.IsValuesView v d):ObjOk P w H h v (j3 v d):=by
 obtain⟨o,e,r⟩:=x;exact⟨⟨o,e,r⟩,⟨_,e⟩,fun _ _ ⟨o',y,c⟩ k=>⟨o',k _ y,c⟩⟩
def um:V->List V->Hp->VK->Prop:=fun x vs H Q=>∃a kvs,x= .ref a/\vs= []/\H a=some (.dK kvs)/\∀v,H v=none->Q (.ref v) (upd H v (j3 v a))
theorem oX:MtM X "dict.values" um:=by
 intro pins s σ H x vs u us Q I f rv h;obtain⟨a,kvs,rfl,rfl,c,q⟩:=h;cases f;cases rv.zero;obtain⟨z,hd,ws,d,dd⟩:=oq I.hok c;refine call_meetsIn PySem.F.slot_dict_values dd.typeIs PySem.F.entry_dict_values (PySem.F.args_dict_values_1 _) (meets_dict_values (aO X.prog X.w) a hd) ⟨⟨ws,dd⟩,?_⟩;exact⟨.ref _,_,I.laid (t':=s.toks) (fun b ob e=>Heap.get?_push_of_some _ e) (yV _) (u6 ⟨_,Heap.get?_push_size _ rfl,rfl,rfl⟩),rfl,q _ (I.hok.fresh (yV _))⟩
end L2
namespace Dj
open PySem PySem.Spec PySem.W PyProof.Rows L2 Tre Srt
def SrQ(H:Hp)(ts:List Tr)(Q:VK):Prop:=∀(D:Addr) (ws:List V) (us:List Tr),H D=none->us.Perm ts->TrsAt H ws us->(∀(i j:Nat) (t u:Tr),i<=j->us[i]?=some t->us[j]?=some u->ltT u t=false)->Q (.ref D) (upd H D (.lst ws))
variable{Q:VK}{ts:List Tr}
theorem dX{κ:SortKind}(I:Inv X pins σ H s)(rv:Vals vs as)(hT:TrsAt H vs ts)(hlen:ts.length < 64)(hcol:∀(E:Value->Shared->Prop) (Q':List Value->Shared->Prop),(∀h' tk,(∀b o,s.heap.get? b=some o->h'.get? b=some o)->s.heap.objs.size < h'.objs.size->Q' as {s with heap:=h',toks:=tk})->wpAny (model X.prog X.w) X.A.in1 (collect (.ref a)) Q' E s)(hkind:∀s',Inv X pins σ H s'->2<=as.length->∀(E':Value->Shared->Prop) (R:SortKind->Shared->Prop),R κ s'->wpAny (model X.prog X.w) X.A.in1.in1 (keyKind' as.toArray) R E' s')(hask:∀s',Inv X pins σ H s'->∀(i j:Nat) (t u:Tr) (v v':V) (a b:Value),t∈ts->u∈ts->TrAt H v t->TrAt H v' u->RelV v a->RelV v' b->as.getD i Value.none=a->as.getD j Value.none=b->∀R:Bool->Shared->Prop,R (ltT t u) s'->kas_ask X.prog X.w X.A.in1.in1 κ as i j R s')(q:SrQ H ts Q):wpAny (model X.prog X.w) X.A (call (.builtin "sorted") [.ref a]) (EP X pins σ Q) X.xe s:=by
 have l1:=hT.len;have l2:=rv.length;have O:Srt.Ord fun i j=>ltT (ts.getD i .non) (ts.getD j .non):=⟨fun a b h=>i3 h,fun a b c h1 h2=>xa h1 h2⟩
 have at_:∀i,i < as.length->∃t v a,ts.getD i .non=t/\t∈ts/\TrAt H v t/\RelV v a/\as.getD i Value.none=a:=fun i hi=>by
  have d:i < ts.length:=by omega
  obtain⟨v,e1,l⟩:=hT.get (i:=i) (t:=ts[i]) (yS d);obtain⟨a,e3,e4⟩:=rv.get e1;exact U4 (ts[i]) v a (by rw[z8,yS d];rfl) (zJ d) l e4 (by rw[z8,e3];rfl)
 refine oN (κ:=κ) (vs:=as) O (by omega) (fun Q' r=>hcol _ Q' r) (fun h2 h' tk kp E' R g=>hkind _ (I.kept (t':=tk) kp) h2 E' R g) (fun h' tk kp i j R hi n g=>?_) fun p hp x h' tk D e kp sz he=>?_
 . obtain⟨t,v,a,et,mt,ht,ra,y⟩:=at_ i hi;obtain⟨u,v',b,eu,mu,ai,rb,k⟩:=at_ j n;rw[et,eu]at g;exact hask _ (I.kept (t':=tk) kp) i j t u v v' a b mt mu ht ai ra rb y k R g
 . have f:∀i∈p.toList,i < ts.length:=fun i m=>by
    have:=zZ.mp (List.Perm.mem_iff hp |>.mp m);omega
   refine Y5 (.ref D) (upd H D (.lst (p.toList.map fun i=>vs.getD i .non))) (I.laid (t':=tk) kp sz ?_) rfl ?_
   . refine⟨?_,U3 (p.toList.map fun i=>as.getD i Value.none) e (Vals.map rv fun i m=>by have:=f i m;omega) he⟩
     rw[yR,zX,hp.size];have:(64:Nat)<=sizeLine:=by decide +kernel
     omega
   . refine q _ _ (p.toList.map fun i=>ts.getD i .non) (I.hok.fresh sz) ?_ (TrsAt.map hT f) fun i j t u z e1 l=>?_
     . have:=List.Perm.map (fun i=>ts.getD i Tr.non) hp;rw[show as.length=ts.length by omega,fw]at this
       exact this
     . rw[yW]at e1 l;obtain⟨a,y,rfl⟩:=za.mp e1;obtain⟨b,k,rfl⟩:=za.mp l
       have n:j < as.length:=by
        have:=(yZ.mp k).1;rw[zX,hp.size]at this;exact this
       have:=x i j z n;rw[dC,dC,<-A5,<-A5,y,k]at this;exact this
theorem kh(hu:X.A.units+60 < cLine)(I:Inv X pins σ H s)(rv:Vals vs as)(hT:TrsAt H vs ts)(hlen:ts.length < 64)(hts:∀t∈ts,Hs t/\t.pure/\t.depth<=40)(hcm:∀t∈ts,∀u∈ts,Cm t u)(hcol:∀(E:Value->Shared->Prop) (Q':List Value->Shared->Prop),(∀h' tk,(∀b o,s.heap.get? b=some o->h'.get? b=some o)->s.heap.objs.size < h'.objs.size->Q' as {s with heap:=h',toks:=tk})->wpAny (model X.prog X.w) X.A.in1 (collect (.ref a)) Q' E s)(q:SrQ H ts Q):wpAny (model X.prog X.w) X.A (call (.builtin "sorted") [.ref a]) (EP X pins σ Q) X.xe s:=by
 have l1:=hT.len;have l2:=rv.length;refine dX (κ:=tuples' true) I rv hT hlen hcol (fun s' k h2 E' R hR=>?_) (fun s' k i j t u v v' a b mt mu ht y ra rb ea eb R hR=>?_) q
 . skip
   obtain⟨fs,k1,k2,k3⟩:=o3 k hT rv fun t m=>(hts t m).1;refine kat_kind (T:=Value.type "str") k1 (by omega) (fun v m=>?_) (by decide +kernel) ?_
   . obtain⟨x,t,rfl⟩:=k3 v m;exact .now
   . rw[show(Value.type "str" !=Value.type "tuple")=true by decide +kernel]
     exact hR
 . skip
   have g:=hcm t mt u mu;obtain⟨⟨x1,r1,rfl⟩,p1,d1⟩:=hts t mt;obtain⟨⟨f,r2,rfl⟩,p2,d2⟩:=hts u mu;unfold TrAt at ht y;obtain⟨x0,bb,rfl,g0,g1⟩:=ht;obtain⟨y0,a5,rfl,g2,g3⟩:=y;cases ra;cases rb;obtain⟨bg,o,n,q3,ho,a0,aC⟩:=bX k g0;obtain⟨a6,o',n',q4,ao,aT,aA⟩:=bX k g2;have z0:=g1.len;have z1:=g3.len;have z2:=q3.length;have z3:=q4.length;obtain⟨y1,a3,rfl,w1,w2⟩:=g1.inv;obtain⟨y2,a4,rfl,w3,w4⟩:=g3.inv;unfold TrAt at w1 w3;subst w1 w3
   cases q3 with
   |cons q3 ai=>
    cases q4 with
    |cons q4 aB=>
     obtain⟨r,rfl⟩:=q3;obtain⟨l,rfl⟩:=q4;unfold Tr.depth at d1;unfold Trs.depth at d1;unfold Tr.pure at p1;unfold Trs.pure at p1;unfold kas_ask;rw[ea,eb];refine kat_lt (b:=true) ho aC ao aA ?_;rw[An,An];have p:X.A.in1.in1.units+40+1 < cLine:=by show X.A.units+1+1+40+1 < cLine;omega
     have e:∀q,lexV (decide ((Value.str x1 r::_).toArray.size < (Value.str f l::_).toArray.size)) ((x1==f,decide (x1.cps.toList < f.cps.toList))::q)=lexV (decide ((Tr.str x1::r1).length < (Tr.str f::r2).length)) ((x1==f,decide (x1.cps.toList < f.cps.toList))::q):=fun q=>by
      rw[yX,yX,<-z2,<-z3,z0,z1]
     by_cases ex:(x1==f)=true
     . unfold Cm at g;unfold Cms at g
       have au:Cms r1 r2:=by
        rcases g with⟨_,c⟩|⟨n,_⟩
        . exact c
        . unfold Tre.eqT at n;rw[ex]at n;cases n
       have hx':=eF (A:=X.A.in1.in1) k p (fun d pp cc a1 a2 b1 b2=>dG k 40 d pp cc a1 a2 b1 b2 p) (by omega) (.inl p1.2) au w2 w4 ai aB
       refine uN hx' ?_;rw[e]
       have e2:lexV (decide ((Tr.str x1::r1).length < (Tr.str f::r2).length)) ((x1==f,decide (x1.cps.toList < f.cps.toList))::qs r1 r2)=ltT (.tup (Tr.str x1::r1)) (.tup (Tr.str f::r2)):=by
        refine aU ?_;rw[ltT_iff];have el:decide ((Tr.str x1::r1).length < (Tr.str f::r2).length)=decide (r1.length < r2.length):=by simp
        have e4:=(jd x1 f).mp ex;simp only[lexV,ex,if_true,el,df,Tre.code,Tre.codes,LtC,LtCs,e4];constructor
        . intro h;exact .inr ⟨trivial,h⟩
        . rintro(h|h)
          . exact absurd h (List.lt_irrefl _)
          . exact h.2
       rw[e2];exact hR
     . have exf:(x1==f)=false:=by simpa using ex
       rw[Ae];refine kat_cons (SeqAt.EqAt.str_str x1 r f l X.prog X.w _ _ ?_);rw[exf];refine kat_no ?_;refine oneLt_str ?_
       have e2:decide (x1.cps.toList < f.cps.toList)=ltT (.tup (Tr.str x1::r1)) (.tup (Tr.str f::r2)):=by
        refine aU ?_;rw[ltT_iff,decide_eq_true_iff];have ne:x1.cps.toList≠f.cps.toList:=fun z=>ex ((jd x1 f).mpr z);simp only[Tre.code,Tre.codes,LtC,LtCs,Co.str.injEq];constructor
        . intro h;exact .inl h
        . rintro(h|h)
          . exact h
          . exact absurd h.1 ne
       rw[e2];exact hR
def rD:List V->Hp->VK->Prop:=fun xs H Q=>∃(v a:Addr) (kvs:List (Key×V)) (ts:List Tr),xs= [.ref v]/\H v=some (j3 v a)/\H a=some (.dK kvs)/\TrsAt H (kvs.map (·.2)) ts/\ts.length < 64/\(∀t∈ts,Hs t/\t.pure/\t.depth<=40)/\(∀t∈ts,∀u∈ts,Cm t u)/\SrQ H ts Q
theorem call_sortedV(hc:X.calm=true)(hu:X.A.units+60 < cLine):cj X (.builtin "sorted") rD:=by
 intro pins s σ H xs us Q I r h;obtain⟨v,a,kvs,ts,rfl,hv,m,n,g,l,k,q⟩:=h;obtain⟨u,rfl,o⟩:=dh r;cases o;obtain⟨z,hd,ws,d,dd⟩:=oq I.hok m;obtain⟨c,_⟩:=(show ObjOk X.prog X.w H s.heap v (j3 v a)from I.hok v _ hv);obtain⟨ep,f⟩:=dd.dictAt
 have p:Vals (kvs.map (·.2)) (ws.map (·.2)):=by
  clear f dd z q m n
  induction d with
  |nil=>exact .nil
  |cons r1 _ t=>exact .cons r1.2 t
 refine kh hu I p n g l k (fun E y i=>?_) q;refine kY (A:=X.A.in1) (PySem.W.kdl_values (knd:=aO X.prog X.w) (kvs:=ws) (ep:=ep)) (I.ok.hd hc) ⟨c,f⟩ (by rw[<-d.length];exact z) fun h' tk acc k1 sz b=>?_
 have e:acc.toList=ws.map (·.2):=PySem.W.kdl_vals_eq acc.toList (by rw[zX];exact b.1) fun j x ex=>b.2 j x (by rw[<-A5];exact ex)
 rw[e];exact i h' tk k1 sz
end Dj
namespace L2
open PySem PySem.Spec PyProof.Rows
theorem gW{b:List Stmt}:PSs X b (fun _ _ _=>False):=fun _ _ _ _ _ _ h=>h.elim
end L2
namespace K46
open PySem L2 Mth
noncomputable def top(i:Nat):Stmt:=PySem.Challenge.pw_smallword_k46_turns_that_go_round.main.body.getD i (.Pass ⟨0,0,0,0⟩)
noncomputable abbrev sCd:Stmt:=top 4
noncomputable abbrev sFr:Stmt:=top 5
noncomputable abbrev sBr:Stmt:=top 7
noncomputable abbrev sSt:Stmt:=top 8
noncomputable abbrev iJ:Stmt:=uQ (top 10) 0
noncomputable abbrev sTof:Stmt:=top 11
noncomputable abbrev sSet:Stmt:=top 12
noncomputable abbrev sTmo:Stmt:=top 13
noncomputable abbrev sShi:Stmt:=top 14
noncomputable abbrev sSco:Stmt:=top 15
noncomputable abbrev sWho:Stmt:=top 16
noncomputable abbrev sCto:Stmt:=top 17
noncomputable abbrev sIsl:Stmt:=top 18
noncomputable abbrev sSll:Stmt:=top 19
noncomputable abbrev sTur:Stmt:=top 20
noncomputable abbrev sTud:Stmt:=top 21
noncomputable abbrev sLby:Stmt:=top 22
noncomputable abbrev sRef:Stmt:=top 23
noncomputable abbrev sHco:Stmt:=top 25
noncomputable abbrev sWby:Stmt:=top 26
noncomputable abbrev sPut:Stmt:=top 27
noncomputable abbrev sLio:Stmt:=top 28
noncomputable abbrev sRai:Stmt:=top 29
noncomputable abbrev sRis:Stmt:=top 30
noncomputable abbrev sTig:Stmt:=top 31
noncomputable abbrev sTgr:Stmt:=top 32
noncomputable abbrev sStr:Stmt:=top 33
noncomputable abbrev sClo:Stmt:=top 34
noncomputable abbrev sTli:Stmt:=top 36
noncomputable abbrev sNua:Stmt:=top 37
noncomputable abbrev sHig:Stmt:=top 39
noncomputable abbrev rp:Stmt:=top 41
noncomputable abbrev lQ:Stmt:=top 42
noncomputable abbrev lR:Stmt:=top 43
noncomputable abbrev ji:Stmt:=top 44
noncomputable abbrev jh:Stmt:=top 45
noncomputable abbrev rh:Stmt:=top 46
noncomputable abbrev rj:Stmt:=top 47
noncomputable abbrev jj:Stmt:=top 48
noncomputable abbrev rl:Stmt:=top 49
noncomputable abbrev sLaw:Stmt:=top 50
variable{o:HO}
theorem aa{p:Addr}(h:H p=none):Same H (upd H p o):=fun b u e=>by
 rw[ae (ay e h)];exact e
theorem az(h:H D=none)(s:Same H H'):Same H (upd H' D o):=fun b u e=>by
 rw[ae (ay e h)];exact s b u e
structure Blt (mg:Str->Option Value):Prop where
 ab:mg "abs"=none
 le:mg "len"=none
 ra:mg "range"=none
 isi:mg "isinstance"=none
 tu:mg "tuple"=none
 it:mg "int"=none
 bo:mg "bool"=none
 li:mg "list"=none
 st:mg "str"=none
 al:mg "all"=none
 an:mg "any"=none
 su:mg "sum"=none
 zi:mg "zip"=none
 so:mg "sorted"=none
 ve:mg "ValueError"=none
 re:mg "repr"=none
 en:mg "enumerate"=none
 ma:mg "max"=none
 mi:mg "min"=none
def spCd:Sp:=fun vs H Q _=>∃(a b:Int),vs= [.int a, .int b]/\Q (.int (Int.gcd a b:Int)) H
theorem scC:FnScope ["one","other"] ["one","other"] (af sCd):= .of
theorem vg(a:Int):(if a < 0 then -a else a)=(Int.gcd a 0:Int):=by
 rw[Int.gcd_zero_right];split<;>omega
theorem vF(F:Fun K "common_divisor" "common_divisor" sCd f fd)(B:Blt mg):FnOk P w K mg base CX0 1 f fd ["one","other"] spCd:=by
 refine F.ok scC (fun vs H Q E h=>?_) (fun l A outer s H vs Q E hr h=>?_)
 . obtain⟨a,b,rfl,_⟩:=h;rfl
 . obtain⟨a,b,rfl,k⟩:=h
   refine Y3 _ (ac (dy PassesOwn.never (aw iM (pv 1) ad (aE _)) (ag (rN (i:=0) (j:=1) rfl scC.nd rfl rfl (by decide) rfl rfl (a7 (pv 1) (a7 (av uz (pv 0) (pv 1)) a9)) rfl)))
    (ag (aD (aG io rfl B.ab ip (a7 (pv 0) a9))))) ?_
   refine jU (fun σ H'=>H'=H/\∃x y:Int,σ= [some (.int x),some (.int y)]/\Int.gcd x y=Int.gcd a b) (fun σ _=>match σ with| [_,some (.int y)]=>y.natAbs|_=>0) ⟨rfl,U3 a b rfl rfl⟩ ?_ ?_
   . rintro σ H' ⟨rfl,x,y,rfl,e⟩;refine O5 _ rfl rfl _ rfl ?_;by_cases z:y=0
     . subst z;rw[decide_eq_true rfl];refine iteF ?_;refine U5 _ rfl x rfl ?_;rw[vg,e];exact k
     . have m:¬(V.int y=V.int 0):=fun q=>z (V.int.inj q);rw[decide_eq_false m];refine iteT ?_;refine U5 _ rfl _ rfl (U6 _ rfl x y rfl rfl z (U3 _ _ rfl ?_));refine⟨⟨rfl,U3 y (x.fmod y) rfl ?_⟩,?_⟩
       . rw[sY,e]
       . exact uW z
   . intro σ H' R n c h;obtain⟨v,e1,g,q,d,h⟩:=h;exact O5 v e1 g q d (c _ _ h)
theorem dR{b:Int}(h:Big b)(z:b≠0):Big (Int.gcd t b:Int):=by
 have:Int.gcd t b<=b.natAbs:=Int.gcd_le_natAbs_right t (by omega)
 unfold Big at*;omega
open Dec Tre Wd Tw
def spBr(K:PySem.W.Frag):Sp:=fun vs H Q _=>∃(l:Addr) (y:Str) (ys:List Str),vs= [.ref l]/\SqL K H l ((y::ys).map V.str)/\y.length<=1000/\ys.length<=10/\(∀z∈ys,z.length<=600000)/\∀z,cl z=40::cl y++spC (ys.map cl)++ [41]->Q (.str z) H
theorem scBr:FnScope ["words"] ["words"] (af sBr):= .of
theorem yy(F:Fun K "bracketed" "bracketed" sBr f fd):FnOk P w K mg base CX0 1 f fd ["words"] (spBr K):=by
 refine F.okb scBr fun vs H Q E h=>?_;obtain⟨l,y,ys,rfl,hl,hy,hn,hz,k⟩:=h;refine⟨rfl,fun e A outer s hr=>?_⟩;refine Y3 _ (ag (aD (av hX (av hX eh (cU PySem.F.plainAttrs_str PySem.F.slot_str_join PySem.F.type_str_join uF eh (a7 (pv 0) a9))) eh))) ?_;have e1:(Str.ofString " ").length=1:=by decide +kernel
 have a:(Str.ofString "(").length=1:=by decide +kernel
 have d:(Str.ofString ")").length=1:=by decide +kernel
 have hs:=qw hz;have hm:ys.length*600000<=10*600000:=Am _ hn
 have g:(Txt.join (Str.ofString " ") (y::ys)).length<=6002000:=by
  have h2:=nB (B:=600000) (cs:=ys.map cl) (fun c m=>by
   obtain⟨z,b,rfl⟩:=zr.mp m;rw[cO]
   exact hz z b)
  rw[yR]at h2;have h3:ys.length*(600000+1)<=10*600001:=Am _ hn;rw[<-cO,l9,zj,cO];omega
 have i:(16000000:Nat)<=sizeLine:=by decide +kernel
 refine⟨rfl,J4 _ rfl _ l (y::ys) rfl ⟨rfl,hl,by rw[e1];simp only[zh,List.sum_cons,zg];omega,Y7 _ _ rfl rfl (by rw[a];omega) (Y7 _ _ rfl rfl (by rw[Dec.len_app,a,d];omega) (k _ ?_))⟩⟩
 rw[ik,ik,yC,yo,l9];simp
def spSt(n:Nat):Sp:=fun vs H Q _=>∃(v:V) (t:Tr),vs= [v]/\TrAt H v t/\Ty .tm t/\t.depth < n/\(tmC t).length<=1000/\∀z H',Same H H'->cl z=tmC t->Q (.str z) H'
theorem scSt:FnScope ["term"] ["term"] (af sSt):= .of
theorem pX{ts:List Tr}{t:Tr}(m:t∈ts):(tmC t).length<=(tmsC ts).length:=by
 rw[eQ];obtain⟨a,b,rfl⟩:=List.append_of_mem m;rw[zd,uh,zh];show _<=(_++((32::tmC t)++spC (b.map tmC))).length;simp only[zj,zg];omega
theorem yx{fB:Addr}{fdB:FuncData}(F:Fun K "shown_term" "shown_term" sSt f fd)(bF:Binds K fd ["term"] [])(mF:mg "shown_term"=some (.ref f))(FB:Fun K "bracketed" "bracketed" sBr fB fdB)(bB:Binds K fdB ["words"] [])(mB:mg "bracketed"=some (.ref fB)):
 ∀n,FnOk P w K mg base CX0 (n+1) f fd ["term"] (spSt n):=by
 have GB:FnOk P w K mg base CX0 1 fB fdB ["words"] (spBr K):=yy FB;intro n
 induction n with
 |zero=>exact⟨fun vs H Q E ⟨_,_,_,_,_,h,_⟩=>absurd h (by omega),fun A outer s H args us vs Q E _ _ _ _ ⟨_,_,_,_,_,h,_⟩=>absurd h (by omega)⟩
 |succ n ih=>
  refine F.ok scSt (fun vs H Q E h=>?_) (fun aA A outer s H vs Q E hr h=>?_)
  . refine hZq fun q_ e_=>?_;obtain⟨v,t,rfl,_⟩:=h;subst e_;rfl
  refine hZq fun q_ e_=>?_;obtain⟨v,t,rfl,hv,hw,hd,hl,k⟩:=h;subst e_;have o:Room 1 _:=hr.mono (by omega)
  refine Y3 _ (ac (bS (aw fO (aq aL (pv 0) ad fun _ _=>rfl) eh (aE _)) (ag (aD (aq aL (pv 0) ad fun _ _=>rfl))) aS)
   (ag (aD (fc GB o rfl mB FB.kp bB .nil iL (a7 (av fD (bW (a7 (aq aL (pv 0) ad fun _ _=>rfl) a9))
    (aY (NC:= ["inner"]) (mp:= [none]) rfl (fA (aq aL (pv 0) ad fun _ _=>rfl)) (fun _ _ _ _ _=>pgA 0 (show(["inner"]:List Str).Nodup by decide +kernel)) (fun _ _ _ _ _=>aV) (fun _ _ _ _ _=>fc ih hr rfl mF F.kp bF .nil iL (a7 (pv 0) a9)))) a9))))) ?_
  cases hw with
  |nm x=>
   refine hZq fun q_ e_=>?_;obtain⟨r,y,rfl,h1,h2⟩:=at2 hv;subst e_;have h3:=at_s h2;subst h3;refine Y2 _ rfl r _ 0 (.str "name") ⟨rfl,rfl,SqT.of h1,rfl,rfl,Y3 _ rfl ?_⟩;rw[decide_eq_true rfl];refine iteT (U2 _ rfl r _ 1 (.str x) rfl rfl (SqT.of h1) rfl ?_);exact k _ H (Same.refl H) (eR _ _).symm
  |ap g ts aB ai=>
   refine hZq fun q_ e_=>?_;obtain⟨r,y,z,rfl,h1,h2,h3⟩:=at3 hv;have e2:=at_s h2;subst e2;obtain⟨q,vs,rfl,h4,h5⟩:=at_t h3;subst e_;refine Y2 _ rfl r _ 0 (.str "call") ⟨rfl,rfl,SqT.of h1,rfl,rfl,Y3 _ rfl ?_⟩;rw[decide_eq_false (show¬V.str "call"=V.str "name" by decide +kernel)]
   refine iteF ?_;refine Y2 _ rfl r _ 1 (.str g) ⟨rfl,rfl,SqT.of h1,rfl,by show 1<=sizeLine;decide,fun l nl=>?_⟩
   have s1:Same H (upd H l (.lst [.str g])):=aa nl;refine bJ rfl ?_;refine U2 _ rfl r _ 2 (.ref q) rfl rfl (SqT.of (s1 _ _ h1)) rfl (Y8 q rfl ⟨vs,SqT.of (s1 _ _ h4)⟩ (fun D nD=>?_));have b:=h5.len;have hL:(100000:Nat)<=sizeLine:=by decide +kernel
   have hl':=hl;unfold s_ at hl';rw[dH]at hl';simp only[zj,zg,cO]at hl';refine tL (xs:=vs) (fun i acc H'=>Same (upd H l (.lst [.str g])) H'/\H' D=some (.lst acc)/\∃ys:List Str,acc=ys.map V.str/\ys.map cl=(ts.take i).map tmC) ⟨aa nD,a8,Y3 ([]) rfl rfl⟩ (fun i acc H' p=>SqT.of (p.1 _ _ (s1 _ _ h4))) ?_ ?_
   . intro i x acc H' hi ex z_;refine hZq fun q_ e_=>?_;obtain⟨c,hD,ys,rfl,a⟩:=z_;obtain⟨t,et,u⟩:=h5.get' ex;subst e_;have d:=z5 et;have au:=pX d;have yl:=congrArg List.length a;rw[yR,yR,zv]at yl;refine U6 _ rfl x t rfl (u.mono (Kd.of_same (s1.trans c))) (ai t d) ⟨?_,by omega,fun z H6 s6 j=>CompN.mk hi ?_ (s6 _ _ hD) ⟨az nD (c.trans s6),a8,Y3 (ys++ [z]) (by rw[zd];rfl) ?_⟩⟩
     . have ao:=hd;simp only[Tr.depth,Trs.depth]at ao;have:=bM d;omega
     . rw[yR];omega
     . rw[zd,a,List.take_add_one,et];simp[j]
   . intro acc H' z_;refine hZq fun q_ e_=>?_;obtain⟨c,hD,ys,rfl,a⟩:=z_;subst e_;rw[b,zp]at a;have m:H' l=some (.lst [.str g]):=c _ _ a8;have yl:=congrArg List.length a;rw[yR,yR]at yl;refine Y6 l D ([.str g]) _ ⟨rfl,rfl,m,hD,by simp only[yR,zg,List.length_nil];omega,fun p np=>?_⟩
     refine U4 p g ys rfl (SqL.of ?_) (by omega) (by omega) ⟨fun y my=>?_,fun z j=>?_⟩
     . rw[a8];rfl
     . have:cl y∈ts.map tmC:=by rw[<-a];exact A6 my
       obtain⟨t,d,e⟩:=zr.mp this;have:=pX d;rw[<-cO,<-e];omega
     . refine k z _ (s1.trans (c.trans (aa np))) ?_;unfold s_;rw[j,dH,eQ,a]
end K46
namespace Su
open PySem L2 Tre Mth Wd
noncomputable def lin(g:Tr->Rat):List Pq->Rat
 | []=>0
 |p::r=>rv p.2*g p.1+lin g r
theorem uJ(g:Tr->Rat)(a b:List Pq):lin g (a++b)=lin g a+lin g b:=by
 induction a with
 |nil=>simp only[List.nil_append,lin];grind
 |cons p r c=>simp only[zK,lin,c];grind
theorem yn{p q:Fr}(h1:0 < p.2)(h2:0 < q.2):p.1*q.2<=q.1*p.2↔rv p<=rv q:=by
 have a:(0:Rat) < p.2:=by exact_mod_cast h1
 have b:(0:Rat) < q.2:=by exact_mod_cast h2
 have e:(p.1*q.2<=q.1*p.2)↔((p.1:Rat)*q.2<=q.1*p.2):=by
  rw[<-Rat.intCast_mul,<-Rat.intCast_mul,Rat.intCast_le_intCast]
 rw[e];unfold rv;have j:(0:Rat) < (p.2:Rat)⁻¹:=Rat.inv_pos.mpr a;have i:(0:Rat) < (q.2:Rat)⁻¹:=Rat.inv_pos.mpr b;rw[Rat.div_def,Rat.div_def];have k:(p.2:Rat)*(p.2:Rat)⁻¹=1:=Rat.mul_inv_cancel _ (by grind)
 have nb:(q.2:Rat)*(q.2:Rat)⁻¹=1:=Rat.mul_inv_cancel _ (by grind)
 generalize (p.2:Rat)⁻¹=x at*;generalize (q.2:Rat)⁻¹=y at*;generalize (p.2:Rat)=c at*;generalize (q.2:Rat)=d at*;generalize (p.1:Rat)=m at*;generalize (q.1:Rat)=n at*;constructor
 . intro h;have h3:=Rat.mul_le_mul_of_nonneg_right h (Rat.le_of_lt j);have f:=Rat.mul_le_mul_of_nonneg_right h3 (Rat.le_of_lt i);have e1:m*d*x*y=m*x:=by clear h h3 f e;grind
   have g:n*c*x*y=n*y:=by clear h h3 f e;grind
   rw[e1,g]at f;exact f
 . intro h;have h3:=Rat.mul_le_mul_of_nonneg_right h (Rat.le_of_lt a);have f:=Rat.mul_le_mul_of_nonneg_right h3 (Rat.le_of_lt b);have e1:m*x*c*d=m*d:=by clear h h3 f e;grind
   have g:n*y*c*d=n*c:=by clear h h3 f e;grind
   rw[e1,g]at f;exact f
open Classical in
noncomputable def cnt(t:Tr):List Pq->Nat
 | []=>0
 |p::r=>(if p.1=t then 1 else 0)+cnt t r
theorem gC(t:Tr)(a b:List Pq):cnt t (a++b)=cnt t a+cnt t b:=by
 induction a with
 |nil=>simp[cnt]
 |cons p r c=>simp only[zK,cnt,c];omega
theorem uZ(t:Tr)(p:Pq)(e:p.1=t):cnt t [p]=1:=by simp[cnt,e]
theorem l6{t:Tr}:∀ {l:List Pq},(∀p∈l,p.1≠t)->cnt t l=0
 | [],_=>rfl
 |p::r,h=>by
  simp only[cnt,if_neg (h p yT),l6 fun x m=>h x (yU _ m)]
theorem jP{t:Tr}:∀ {us:List Pq},Asc us->cnt t us<=1
 | [],_=>zc _
 |p::r,h=>by
  obtain⟨h1,h2⟩:=AF.mp h;by_cases e:p.1=t
  . rw[cnt,if_pos e,l6 fun q m z=>fR (h1 q m) (e.trans z.symm)];exact yV _
  . rw[cnt,if_neg e];have:=jP (t:=t) h2;omega
theorem jO{t:Tr}{f:Pq->Pq}(hf:∀p,(f p).1=p.1):∀l:List Pq,cnt t (l.map f)=cnt t l
 | []=>rfl
 |p::r=>by
  have e:=hf p;simp only[zh,cnt,jO hf r];by_cases z:p.1=t
  . rw[if_pos z,if_pos (e.trans z)]
  . rw[if_neg z,if_neg fun q=>z (e.symm.trans q)]
theorem asc_len:∀ {us:List Pq} {T:List Tr},Asc us->(∀u∈us,u.1∈T)->us.length<=T.length
 | [],_,_,_=>zc _
 |p::r,T,h,hm=>by
  classical
  obtain⟨h1,h2⟩:=AF.mp h
  have a:=asc_len (T:=T.filter fun t=>decide (t≠p.1)) h2 fun u m=>zC.mpr ⟨hm u (yU _ m),by
   have:=fR (h1 u m);simp only[decide_eq_true_eq]
   exact fun z=>this z.symm⟩
  have:(T.filter fun t=>decide (t≠p.1)).length < T.length:=by
   refine Nat.lt_of_le_of_ne (zu _ _) fun e=>?_;have:=List.length_filter_eq_length_iff.mp e p.1 (hm p yT);simp at this
  rw[zg];omega
structure Bd where
 us:List Pq
 m:Fr
 st:Bool
abbrev Wt:=Nat×Fr
def wtT(k:Wt):Tr:= .tup [.int (k.1:Int),frT k.2]
def bdAt(bs:List Bd)(i:Nat):Bd:=bs.getD i ⟨[],zero,false⟩
noncomputable def aZ(bs:List Bd):List Wt->List Pq
 | []=> []
 |k::r=>(bdAt bs k.1).us.map (scale k.2)++aZ bs r
noncomputable def totR(bs:List Bd):List Wt->Rat
 | []=>0
 |k::r=>rv (bdAt bs k.1).m*rv k.2+totR bs r
theorem pE(bs:List Bd)(a b:List Wt):aZ bs (a++b)=aZ bs a++aZ bs b:=by
 induction a with
 |nil=>rfl
 |cons k r c=>simp only[zK,aZ,c,AL]
theorem pW(bs:List Bd)(a b:List Wt):totR bs (a++b)=totR bs a+totR bs b:=by
 induction a with
 |nil=>simp only[List.nil_append,totR];grind
 |cons k r c=>simp only[zK,totR,c];grind
theorem pD(bs:List Bd)(k:Wt):aZ bs [k]=(bdAt bs k.1).us.map (scale k.2):=by simp[aZ]
theorem pV(bs:List Bd)(k:Wt):totR bs [k]=rv (bdAt bs k.1).m*rv k.2:=by simp only[totR];grind
structure Gb (T:List Tr) (e:Nat) (b:Bd):Prop where
 asc:Asc b.us
 mem:∀u∈b.us,u.1∈T
 gq:∀u∈b.us,Gq e u
 sh:Sh b.m
 gf:Gf e b.m
theorem tR{bs:List Bd}(h:i < bs.length):bs[i]?=some (bdAt bs i):=by
 unfold bdAt;rw[yS h,z8,yS h];rfl
theorem iq{bs:List Bd}(h:i < bs.length):bdAt bs i∈bs:=z5 (tR h)
theorem ic{T:List Tr}{e:Nat}{bs:List Bd}(hb:∀b∈bs,Gb T e b)(t:Tr):∀ {ks:List Wt},(∀k∈ks,k.1 < bs.length)->cnt t (aZ bs ks)<=ks.length
 | [],_=>zc _
 |k::r,h=>by
  have h1:=jP (t:=t) (hb _ (iq (h k yT))).asc;have h2:=ic hb t (ks:=r) fun x m=>h x (yU _ m);rw[aZ,gC,jO (f:=scale k.2) fun _=>rfl,zg];omega
theorem i9{T:List Tr}{e:Nat}{bs:List Bd}(hb:∀b∈bs,Gb T e b):∀ {ks:List Wt},(∀k∈ks,k.1 < bs.length)->(aZ bs ks).length<=ks.length*T.length
 | [],_=>zc _
 |k::r,h=>by
  have g:=hb _ (iq (h k yT));have h1:=asc_len g.asc g.mem;have h2:=i9 hb (ks:=r) fun x m=>h x (yU _ m);rw[aZ,zj,yR,zg,Nat.succ_mul];omega
theorem kM{T:List Tr}{e:Nat}{bs:List Bd}(hb:∀b∈bs,Gb T e b):∀ {ks:List Wt},(∀k∈ks,k.1 < bs.length)->∀p∈aZ bs ks,p.1∈T
 | [],_,p,mp=>by cases mp
 |k::r,h,p,mp=>by
  rw[aZ]at mp;rcases zw.mp mp with mp|mp
  . obtain⟨u,a,rfl⟩:=zr.mp mp;exact(hb _ (iq (h k yT))).mem u a
  . exact kM hb (fun x c=>h x (yU _ c)) p mp
end Su
namespace Tre
open PySem PySem.Spec PyProof.Rows L2
def rNeT:R2:=fun x y H Q=>∃ts us,TrAt H x (.tup ts)/\TrAt H y (.tup us)/\(Trs.pure ts\/Trs.pure us)/\Trs.depth ts<=40/\Q (.bl (!eqTs ts us)) H
theorem kH{ts us:List Tr}{bs:List Value}(I:Inv X pins σ H s)(hu:A.units+42 < cLine)(h1:TrsAt H vs ts)(h2:TrsAt H ws us)(hp:Trs.pure ts\/Trs.pure us)(hd:Trs.depth ts<=40)(r1:Vals vs as)(r2:Vals ws bs)(j:Nat)(g1:j < as.toArray.size)(g2:j < bs.toArray.size):SeqAt.EqAt A s as.toArray[j] bs.toArray[j] (eqJ ts us j):=by
 have l1:=h1.len;have l2:=h2.len;have p:=r1.length;have o:=r2.length;have b:j < as.length:=by simpa using g1
 have a:j < bs.length:=by simpa using g2
 have t1:ts[j]?=some (ts[j]'(by omega)):=yS _
 have t2:us[j]?=some (us[j]'(by omega)):=yS _
 obtain⟨v,e1,m⟩:=h1.get t1;obtain⟨w,e,l⟩:=h2.get t2;obtain⟨g,c,f⟩:=r1.get e1;obtain⟨h,d,i⟩:=r2.get e;have n:as.toArray[j]=g:=by rw[List.getElem_toArray];rw[yS b]at c;exact z9 c
 have k:bs.toArray[j]=h:=by rw[List.getElem_toArray];rw[yS a]at d;exact z9 d
 rw[n,k,t9 t1 t2];refine ga I 40 ?_ ?_ m l f i (by omega)
 . have:=bM (z5 t1);omega
 . rcases hp with hp|hp
   . exact .inl (dw hp (z5 t1))
   . exact .inr (dw hp (z5 t2))
theorem wg(hu:X.A.units+50 < cLine):OpR X (compareOp .NotEq) rNeT:=by
 intro pins s σ H x y v u Q I g f h;obtain⟨ts,us,h1,h2,hp,hd,q⟩:=h;unfold TrAt at h1 h2;obtain⟨a,vs,rfl,c,k1⟩:=h1;obtain⟨b,ws,rfl,g2,k2⟩:=h2;cases g;cases f;obtain⟨as,r1,d,_⟩:=I.tuple (SqT.of c);obtain⟨bs,r2,p2,_⟩:=I.tuple (SqT.of g2);refine SeqAt.RcNeAt.tuples (A:=X.A) (e:=eqJ ts us) (show s.heap.IsTuple a as.toArray from d) (show s.heap.IsTuple b bs.toArray from p2) (by omega) (fun j c g2=>kH I (by show X.A.units+1+42 < cLine;omega) k1 k2 hp hd r1 r2 j c g2) X.prog X.w X.xe _ ?_
 refine Y5 (.bl (!eqTs ts us)) H I ?_ q;rw[yX,yX,<-r1.length,<-r2.length,k1.len,k2.len,<-dE];rfl
end Tre
namespace K46
open PySem L2 Mth Tre Wd Su
noncomputable def lcmF(s:Int):List Fr->Int
 | []=>s
 |f::r=>lcmF (s / (Int.gcd s f.2:Int)*f.2) r
theorem sK(s:Int)(a b:List Fr):lcmF s (a++b)=lcmF (lcmF s a) b:=by
 induction a generalizing s with
 |nil=>rfl
 |cons f r c=>simp only[zK,lcmF,c]
variable{s:Int}{fC:Addr}{fdC:FuncData}
theorem lcm1{b:Int}(hs:0 < s)(hb:0 < b):0 < s / (Int.gcd s b:Int)*b/\s∣s / (Int.gcd s b:Int)*b/\b∣s / (Int.gcd s b:Int)*b/\(s / (Int.gcd s b:Int)*b).natAbs<=s.natAbs*b.natAbs:=by
 obtain⟨a,e,e1,c,_,d,_⟩:=cz (x:=s) (y:=b) (by omega)
 have f:0 < (Int.gcd s b:Int):=by
  have:Int.gcd s b≠0:=fun z=>by
   rw[z]at c;have:b=0:=by rw[c];exact zQ _
   omega
  omega
 rw[d];have hx:0 < a:=cZ (k:=(Int.gcd s b:Int)) (by omega) (by rw[<-e1];exact hs)
 refine⟨Au hx hb,⟨e,?_⟩,⟨a,A9 _ _⟩,?_⟩
 . generalize (Int.gcd s b:Int)=g at*;subst e1;rw[c];grind
 . rw[zA];refine Am _ ?_
   have:a.natAbs<=((Int.gcd s b:Int)*a).natAbs:=by
    rw[zA];exact Nat.le_mul_of_pos_left _ (by omega)
   rw[<-e1]at this;exact this
theorem dO{M:Nat}:∀ {fs:List Fr} {s:Int},0 < s->(∀f∈fs,0 < f.2/\f.2.natAbs<=M)->0 < lcmF s fs/\s∣lcmF s fs/\(∀f∈fs,f.2∣lcmF s fs)/\(lcmF s fs).natAbs<=s.natAbs*M^fs.length
 | [],s,hs,_=>⟨hs,Int.dvd_refl _,fun f m=>(by cases m),by simp[lcmF]⟩
 |f::r,s,hs,h=>by
  obtain⟨c,a,d,b⟩:=lcm1 hs (h f yT).1;obtain⟨b1,b2,b3,b4⟩:=dO (M:=M) (fs:=r) c fun g m=>h g (yU _ m);refine⟨b1,Int.dvd_trans a b2,fun g m=>?_,?_⟩
  . rcases yY.mp m with rfl|m
    . exact Int.dvd_trans d b2
    . exact b3 g m
  . refine z7 b4 ?_;rw[zg,Nat.pow_succ,Nat.mul_comm (M^r.length),<-Nat.mul_assoc];exact Am _ (z7 b (Nat.mul_le_mul_left _ (h f yT).2))
def kg:Sp:=fun vs H Q _=>∃(t b:Int),vs= [.int t, .int b]/\0 < b/\Big b/\∀p,H p=none->Q (.ref p) (upd H p (.tup [.int (fx t b), .int (fy t b)]))
theorem scF:FnScope ["top","bottom","divisor"] ["top","bottom"] (af sFr):= .of
theorem wY(F:Fun K "fraction" "fraction" sFr f fd)(FC:Fun K "common_divisor" "common_divisor" sCd fC fdC)(bC:Binds K fdC ["one","other"] [])(mC:mg "common_divisor"=some (.ref fC))(B:Blt mg):FnOk P w K mg base CX0 2 f fd ["top","bottom"] kg:=by
 have d:FnOk P w K mg base CX0 1 fC fdC ["one","other"] spCd:=vF FC B;refine F.okb scF fun vs H Q E h=>?_;obtain⟨t,b,rfl,h0,hb,k⟩:=h;refine⟨rfl,fun e A outer s hr=>?_⟩
 refine Y3 _ (ac (bS (aw fO (pv 1) ad (aE _)) gW aS)
  (ac (psA 2 scF.nd (fc d hr rfl mC FC.kp bC .nil iL (a7 (pv 0) (a7 (pv 1) a9))))
  (ac (bS (aw km (pv 1) ad (aE _)) gW aS)
  (ag (aD (aX (a7 (av ko (pv 0) (pv 2)) (a7 (av ko (pv 1) (pv 2)) a9)))))))) ?_
 have z:b≠0:=by omega
 have g:¬(V.int b=V.int 0):=fun q=>z (V.int.inj q);refine O5 _ rfl rfl _ rfl ?_;rw[decide_eq_false g];refine iteF ?_;refine U5 _ rfl _ rfl (U3 t b rfl ?_);refine U9 _ rfl b 0 rfl rfl (Y3 _ rfl ?_);rw[decide_eq_false (show¬b < 0 by omega)]
 refine iteF ?_;have a:dv t b=(Int.gcd t b:Int):=by unfold dv;rw[if_neg (by omega)]
 have c:(Int.gcd t b:Int)≠0:=by rw[<-a];exact tq z
 refine Y3 _ rfl (U6 _ rfl t _ rfl rfl ⟨c,dR hb z⟩ (Y3 _ rfl (U6 _ rfl b _ rfl rfl ⟨c,dR hb z⟩ ⟨two,fun p hp=>?_⟩)));have:=k p hp;unfold fx fy at this;rw[a]at this;exact this
def mW:Sp:=fun vs H Q _=>∃(v:V) (us:List Pq),vs= [v]/\TrAt H v (.tup (us.map prT))/\us.length<=64/\∀(l:Addr) (ws:List V) (H':Hp),Same H H'->H l=none->H' l=some (.lst ws)->TrsAt H' ws (us.map fun u=>frT u.2)->Q (.ref l) H'
theorem ye:FnScope ["pairs"] ["pairs"] (af sShi):= .of
theorem wH(F:Fun K "shares_in" "shares_in" sShi f fd):FnOk P w K mg base CX0 1 f fd ["pairs"] mW:=by
 refine F.okb ye fun vs H Q E h=>?_;obtain⟨v,us,rfl,hv,hl,k⟩:=h;refine⟨rfl,fun aA A outer s hr=>?_⟩
 refine Y3 _ (ag (aD (aY (NC:= ["term","share"]) (mp:= [none,none]) (g:=gTup K 2 (b9 (aM 0) (b9 (aM 1) gNil))) rfl (fA (pv 0))
  (fun _ _ _ _ _=>ba (n:=2) rfl (aj (pgA 0 (show(["term","share"]:List Str).Nodup by decide +kernel)) (aj (pgA 1 (show(["term","share"]:List Str).Nodup by decide +kernel)) aQ))) (fun _ _ _ _ _=>aV)
  (fun _ _ _ _ _=>pv 1)))) ?_
 have ao:(20000:Nat)<=sizeLine:=by decide +kernel
 obtain⟨au,xs,rfl,i,e⟩:=at_t hv;have xl:=e.len;rw[yR]at xl;refine tM (K':=K) (xs:=xs) (rest:= []) (a:=au) rfl (fun Q q=>Y3 _ rfl q) (SqT.of i) fun L t=>?_;refine U8 (fun j b H'=>Same H H'/\H' L=some (.lst b)/\TrsAt H' b ((us.take j).map fun u=>frT u.2)) ⟨aa t,a8,by rw[Aa];exact .nil⟩ (fun j b H' p=>SqT.of (p.1 _ _ i)) ?_ ?_
 . rintro j z b H' hj ⟨m,l,c⟩ ez;obtain⟨t',d,r⟩:=(e.mono (Kd.of_same m)).get' ez;rw[yW]at d;obtain⟨⟨tm,fr⟩,eq,rfl⟩:=za.mp d;obtain⟨T',x,y,rfl,o,hx,hy⟩:=cq r;have ai:=c.len;rw[yR,zv]at ai;refine Y4 T' x (O5 y rfl (SqT.of o) _ rfl ?_);have kd:=Kd.upd (ys:=b++ [y]) l;refine CompN.mk hj (by omega) l ⟨az t m,a8,?_⟩
   rw[aH eq,zd];exact TrsAt.app (.cons (hy.mono kd) .nil) (c.mono kd)
 . rintro b H2 ⟨m,l,c⟩;rw[xl,zp]at c;exact k L b H2 m t l c
def mX:Sp:=fun vs H Q _=>∃(l:Addr) (ws:List V) (fs:List Fr) (M:Nat),vs= [.ref l]/\H l=some (.lst ws)/\TrsAt H ws (fs.map frT)/\(∀f∈fs,0 < f.2/\f.2.natAbs<=M)/\0 < M/\M^(fs.length+1) < 2^8000/\Q (.int (lcmF 1 fs)) H
theorem scSco:FnScope ["shares","scale","top","bottom"] ["shares"] (af sSco):= .of
theorem wJ(F:Fun K "scale_of" "scale_of" sSco f fd)(FC:Fun K "common_divisor" "common_divisor" sCd fC fdC)(bC:Binds K fdC ["one","other"] [])(mC:mg "common_divisor"=some (.ref fC))(B:Blt mg):FnOk P w K mg base CX0 2 f fd ["shares"] mX:=by
 have v:FnOk P w K mg base CX0 1 fC fdC ["one","other"] spCd:=vF FC B;refine F.okb scSco fun vs H Q E h=>?_;refine hZq fun q_ e_=>?_;obtain⟨l,ws,fs,M,rfl,hl,q,b,a,hM,k⟩:=h;subst e_;refine⟨rfl,fun y A outer s hr=>?_⟩
 refine Y3 _ (ac (psA 1 scSco.nd ad)
  (ac (bV PassesOwn.never rfl (bn (pv 0)) (ba rfl (aj (pgA 2 scSco.nd) (aj (pgA 3 scSco.nd) aQ)))
   (ag (psA 1 scSco.nd (av aR (av cE (pv 1) (fc v hr rfl mC FC.kp bC .nil iL (a7 (pv 1) (a7 (pv 3) a9)))) (pv 3)))))
  (ag (aD (pv 1))))) ?_
 have n:=q.len;rw[yR]at n;refine J3 _ rfl l rfl ⟨_,SqL.of hl⟩ ?_;refine dD (xs:=ws) (fun i σ H'=>H'=H/\∃j e:Option V,σ= [some (.ref l),some (.int (lcmF 1 (fs.take i))),j,e]) ⟨rfl,Y4 none none rfl⟩ (fun i σ H' _ p=>by rw[p.1];exact SqL.of hl) ?_ ?_
 . intro i x σ H1 ex z_;refine hZq fun q_ e_=>?_;obtain⟨rfl,j,e,rfl⟩:=z_;obtain⟨t,o,ht⟩:=q.get' ex;rw[yW]at o;obtain⟨fr,c,rfl⟩:=za.mp o;obtain⟨z,rfl,d⟩:=cG ht;have il:i < fs.length:=(yZ.mp c).1;obtain⟨f0,fM⟩:=b fr (z5 c);obtain⟨c1,_,_,r⟩:=dO (M:=M) (fs:=fs.take i) (s:=1) (by decide) fun g m=>b g (List.mem_of_mem_take m)
   subst e_;have p1:M^(fs.take i).length<=M^(fs.length+1):=zE a (by rw[zv];omega)
   have p2:M^1<=M^(fs.length+1):=zE a (by omega)
   rw[Nat.pow_one]at p2
   have b1:Big (lcmF 1 (fs.take i)):=by
    unfold Big;have:(1:Int).natAbs=1:=rfl;rw[this,Nat.one_mul]at r;omega
   have b2:Big fr.2:=by unfold Big;omega
   have u:0 < (Int.gcd (lcmF 1 (fs.take i)) fr.2:Int):=by
    have:0 < Int.gcd (lcmF 1 (fs.take i)) fr.2:=zB _ (by omega)
    omega
   refine O3 z _ rfl (SqT.of d) rfl _ _ rfl _ _ rfl rfl ?_;refine Y3 _ rfl (U5 _ rfl _ rfl ⟨_,U6 _ rfl _ _ rfl rfl ⟨u,dR b2 (by omega)⟩ (U6 _ rfl _ _ rfl rfl ⟨?_,b2⟩ ⟨rfl,Y4 (some (.int fr.1)) (some (.int fr.2)) ?_⟩)⟩)
   . unfold Big at*;exact zk (cu _ _) b1
   . rw[aH c,sK];rfl
 . intro σ H1 z_;refine hZq fun q_ e_=>?_;obtain⟨rfl,j,e,rfl⟩:=z_;subst e_;rw[n,zp];exact Y3 _ rfl k
def wh(f:Fr)(s:Int):Int:=f.1*(s / f.2)
def mU:Sp:=fun vs H Q _=>∃(v:V) (f:Fr) (s:Int),vs= [v, .int s]/\TrAt H v (frT f)/\0 < f.2/\Big f.2/\Big f.1/\Big s/\Q (.int (wh f s)) H
theorem y9:FnScope ["share","scale"] ["share","scale"] (af sWho):= .of
theorem wu(F:Fun K "whole_of" "whole_of" sWho f fd):FnOk P w K mg base CX0 1 f fd ["share","scale"] mU:=by
 refine F.okb y9 fun vs H Q E h=>?_;obtain⟨v,f,sc,rfl,hv,f0,b2,b1,bs,k⟩:=h;refine⟨rfl,fun c A outer s hr=>?_⟩;refine Y3 _ (ag (aD (av aR (aq aL (pv 0) ad fun _ _=>rfl) (av cE (pv 1) (aq aL (pv 0) ad fun _ _=>rfl))))) ?_;obtain⟨b,rfl,a⟩:=cG hv;refine U2 _ rfl b _ 0 _ rfl rfl (SqT.of a) rfl (O2 _ rfl _ rfl b _ 1 _ rfl rfl (SqT.of a) rfl (Y7 _ _ rfl rfl ⟨f0,b2⟩ (Y7 _ _ rfl rfl ⟨b1,?_⟩ k)));unfold Big at*;exact zk (cu _ _) bs
theorem vi{f:Fr}(h:0 < f.2):(wh f s).natAbs<=f.1.natAbs*s.natAbs:=by
 unfold wh;rw[zA];exact Nat.mul_le_mul_left _ (cu _ _)
end K46
namespace K46
open PySem L2 Mth Tre Wd Su Tw Fm
theorem SqL.same(s:Same H H')(h:SqL K H a xs):SqL K H' a xs:=h.imp (fun x=>x.imp (fun e=>s _ _ e) fun⟨o,e⟩=>⟨o,s _ _ e⟩) id
def Rk(H:Hp)(e:Key×V)(t:Tr):Prop:=∃z:Str,e.1=Sum.inr z/\Dec.cl z=tmC t/\Gt t/\TrAt H e.2 t
def DictT(H:Hp)(kvs:List (Key×V))(acc:List Tr):Prop:=Paired (Rk H) kvs acc
def But1(d:Addr)(H H':Hp):Prop:=∀x o,x≠d->H x=some o->H' x=some o
theorem But1.trans(a:But1 d H H1)(b:But1 d H1 H2):But1 d H H2:=fun x o n e=>b x o n (a x o n e)
theorem But1.of_same(s:Same H H'):But1 d H H':=fun x o _ e=>s x o e
variable{kvs:List (Key×V)}{acc:List Tr}
theorem But1.kd(hd:H d=some (.dK kvs))(b:But1 d H H'):Kd H H':=by
 have ne:∀ {a:Addr} {o:HO},H a=some o->(∀z,o≠ .dK z)->a≠d:=fun e h z=>by
  rw[z,hd]at e;exact h _ (z9 e).symm
 exact⟨fun a xs e=>b a _ (ne e fun z t=>by cases t) e,fun a xs e=>⟨xs,b a _ (ne e fun z t=>by cases t) e⟩⟩
theorem DictT.mono{H H':Hp}{kvs:List (Key×V)}{acc:List Tr}(h:DictT H kvs acc)(k:Kd H H'):DictT H' kvs acc:=Paired.imp' (fun e t ⟨z,a,b,c,d⟩=>⟨z,a,b,c,d.mono k⟩) h
theorem DictT.len(h:DictT H kvs acc):kvs.length=acc.length:=Paired.length h
theorem DictT.vals(h:DictT H kvs acc):TrsAt H (kvs.map (·.2)) acc:=by
 unfold DictT at h
 induction h with
 |nil=>exact .nil
 |cons h1 _ a=>
  obtain⟨z,_,_,_,d⟩:=h1;exact .cons d a
theorem DictT.none_iff{t:Tr}{z:Str}(h:DictT H kvs acc)(hg:Gt t)(hz:Dec.cl z=tmC t):valV kvs (Sum.inr z)=none↔¬t∈acc:=by
 have e:=dk (Sum.inr z:Key) kvs
 have f:(kvs.any fun kv=>decide (kv.1=(Sum.inr z:Key)))=true↔t∈acc:=by
  clear e;unfold DictT at h
  induction h with
  |nil=>simp
  | @cons kv u kvs us h1 _ c=>
   rw[List.any_cons,Bool.or_eq_true,yY,c]
   have:decide (kv.1=(Sum.inr z:Key))=true↔t=u:=by
    obtain⟨i,a,b,g,_⟩:=h1;rw[decide_eq_true_iff,a];constructor
    . intro q;have d:=Sum.inr.inj q;subst d;exact hg.inj g (hz.symm.trans b)
    . rintro rfl;rw[Dec.cl_inj (b.trans hz.symm)]
   rw[this]
 rw[<-f,e];cases valV kvs (Sum.inr z:Key)<;>simp
def CompD(n i:Nat)(D:Addr)(acc:List (Key×V))(Pv:Nat->List (Key×V)->Hp->Prop)(k:Key):VK:=fun v H7=>H7 D=some (.dK acc)/\acc.length < sizeLine/\∃m',m' < n - i/\(m'=n - (i+1)/\i+1<=n/\Pv (i+1) (putK acc k v) (upd H7 D (.dK (putK acc k v))))
theorem CompD.mk{acc:List (Key×V)}{Pv:Nat->List (Key×V)->Hp->Prop}{k:Key}(hi:i < n)(hl:acc.length < sizeLine)(h1:H7 D=some (.dK acc))(h2:Pv (i+1) (putK acc k v) (upd H7 D (.dK (putK acc k v)))):CompD n i D acc Pv k v H7:=
 ⟨h1,hl,n - (i+1),by omega,rfl,hi,h2⟩
theorem pH{Q:VK}(e:subS mp σ=none::none::rest)(ha:∀Q:VK,Q (.ref a) H1->tl σ H Q)(h1:SqT K H1 a xs)(h:∀D,H1 D=none->∃Pv:Nat->List (Key×V)->Hp->Prop,Pv 0 [] (upd H1 D (.dK []))/\(∀i acc H,Pv i acc H->SqT K H a xs)/\
  (∀i z acc H,i < xs.length->Pv i acc H->xs[i]?=some z->∃T x y,z= .ref T/\SqT K' H T [x,y]/\tk (some x::some y::rest) H fun yk H6=>∃k,yk=kV k/\te (some x::some y::rest) H6 (CompD xs.length i D acc Pv k))/\∀acc H,Pv xs.length acc H->Q (.ref D) H):
 lK mp (iTup K tl) (gTup K' 2 (b9 (aM 0) (b9 (aM 1) gNil))) cY tk te σ H Q:=by
 unfold lK;rw[e];refine ha _ (Y8 a rfl ⟨xs,h1⟩ (fun D g=>?_));obtain⟨Pv,f,j,ps,n⟩:=h D g;refine Y3 (fun i m acc H=>m=xs.length - i/\i<=xs.length/\Pv i acc H) (Y8 xs.length (by simp) (zc _) f) ?_
 rintro i m acc H ⟨rfl,hi,p⟩;have d:=j i acc H p;by_cases b:i < xs.length
 . refine .inr ⟨(U3 xs (xs[i]) d (by simp[b])),?_⟩
   rintro v H' ⟨rfl,y⟩;obtain⟨T,x,z,rfl,l,c⟩:=ps i v acc _ b p (y xs d);exact O3 T ([x,z]) rfl l rfl x ([z]) rfl z ([]) rfl rfl ⟨ext2,c⟩
 . have ei:i=xs.length:=by omega
   subst ei;exact .inl ⟨(Y3 xs d (yV _)),n acc H p⟩
end K46
namespace K46
open PySem L2 Mth Tre
theorem tS{i:Int}(h0:0<=i)(h1:i < ns.length):∃(z:Int),atI (ns.map V.int) i=some (.int z)/\z=ns.getD i.toNat 0:=by
 obtain⟨j,rfl⟩:∃j:Nat,i=(j:Int):=⟨i.toNat,by omega⟩
 have a:j < ns.length:=by omega
 exact⟨ns[j],ax (by rw[yW,yS a];rfl),by rw[Int.toNat_natCast,z8,yS a];rfl⟩
noncomputable def vB(z kk m:Int):Int:=(z%1000003+31*kk*kk+1)*48271%999983*7919%524287%m
noncomputable def tw(ns:List Int)(kk m:Int):Int:=
 if ns.length=0 then vB 0 kk m else if ns.getD 0 0%2=1 then ns.getD (kk%(ns.length:Int)).toNat 0 / 2^(20*(kk / (ns.length:Int))+1).toNat%1048576%m else vB (ns.getD (kk%(ns.length:Int)).toNat 0) kk m
theorem gG{m:Int}(h0:0<=m)(h:m<=1000000000000):Big m:=by
 unfold Big;have:(1000000000000:Nat) < 2^8000:=by decide +kernel
 exact zk (by omega) this
def gQ(K:PySem.W.Frag):Sp:=fun vs H Q _=>∃(a:Addr) (ns:List Int) (kk m:Int),vs= [.ref a, .int kk, .int m]/\SqL K H a (ns.map V.int)/\ns.length<=63/\0<=kk/\kk<=100000/\0 < m/\∀r:Int,0<=r->r < m->r=tw ns kk m->Q (.int r) H
theorem scD:FnScope ["_law_script","_law_k","_law_many","_law_cell","_law_seed"] ["_law_script","_law_k","_law_many"] (af rp):= .of
theorem uE(F:Fun K "_law_draw" "_law_draw" rp f fd)(B:Blt mg):FnOk P w K mg base CX0 1 f fd ["_law_script","_law_k","_law_many"] (gQ K):=by
 refine F.okb scD fun vs H Q E h=>?_;refine hZq fun q_ e_=>?_;obtain⟨a,ns,kk,m,rfl,c,r,k0,k5,d,k⟩:=h;subst e_;refine⟨rfl,fun p A outer s hr=>?_⟩
 refine Y3 _ (ac (psA 3 scD.nd (cS (aw dA (aG ar rfl B.le PySem.boot_len (a7 (pv 0) a9)) ad (aE _))
  (aq am (pv 0) (av dc (pv 1) (aG ar rfl B.le PySem.boot_len (a7 (pv 0) a9))) fun _ _=>rfl) ad))
  (ac (bS (PW.pt (fz (aw dA (aG ar rfl B.le PySem.boot_len (a7 (pv 0) a9)) ad (aE _)) (eX (aw fO (av dc (aq am (pv 0) ad fun _ _=>rfl) ad) ad (aE _)))))
   (ag (aD (av dc (av dc (av wd (pv 3) (av c9 (av jt ad (av uA (pv 1) (aG ar rfl B.le PySem.boot_len (a7 (pv 0) a9)))) ad)) ad) (pv 2)))) aS)
  (ac (psA 4 scD.nd (av c9 (av c9 (av dc (pv 3) ad) (av aR (av jt ad (pv 1)) (pv 1))) ad))
  (ag (aD (av dc (av dc (av jt (av dc (av jt (pv 4) ad) ad) ad) ad) (pv 2))))))) ?_
 by_cases g:ns.length=0
 . have o:ns= []:=List.length_eq_zero_iff.mp g;subst o;refine J7 _ rfl a _ rfl (.inl c) _ 0 rfl rfl _ rfl ?_;refine iteF ?_;refine J7 _ rfl a _ rfl (.inl c) _ 0 rfl rfl _ rfl ?_;refine iteF ?_;refine iteF ?_;refine U6 _ rfl 0 1000003 rfl rfl (by show(0:Int) < 1000003;decide) (U6 _ rfl 31 kk rfl rfl (.inl ⟨by decide,by decide⟩) (U6 _ rfl _ kk rfl rfl ⟨gG (by omega) (by omega),gG k0 (by omega)⟩ (Y5 _ _ rfl rfl (Y5 _ _ rfl rfl ?_))))
   refine U6 _ rfl _ 48271 rfl rfl (.inr ⟨by decide,by decide⟩) (Y7 _ 999983 rfl rfl (by show(0:Int) < 999983;decide) (Y7 _ 7919 rfl rfl (.inr ⟨by decide,by decide⟩) (Y7 _ 524287 rfl rfl (by show(0:Int) < 524287;decide) (U6 _ rfl _ m rfl rfl d ?_))))
   exact k _ (Int.emod_nonneg _ (by omega)) (Int.emod_lt_of_pos _ d) rfl
 . have e:(0:Int) < (ns.length:Int):=by omega
   refine hZq fun q_ e_=>?_;obtain⟨z,hz,j⟩:=tS (ns:=ns) (i:=kk%(ns.length:Int)) (Int.emod_nonneg _ (by omega)) (Int.emod_lt_of_pos _ e)
   obtain⟨y,hy,n⟩:=tS (ns:=ns) (i:=0) (by omega) e
   subst e_;have l:decide ((0:Int) < (ns.length:Int))=true:=decide_eq_true e;refine J7 _ rfl a _ rfl (.inl c) _ 0 rfl rfl _ rfl ?_;rw[yR,l];refine iteT ?_;refine U5 _ rfl _ rfl (U9 _ rfl a _ rfl (.inl c) (Y7 kk _ rfl rfl (by rw[yR];omega) (O9 a _ (kk%(ns.length:Int)) (.int z) rfl (by rw[yR]) c hz ?_)))
   refine J7 _ rfl a _ rfl (.inl c) _ 0 rfl rfl _ rfl ?_;rw[yR,l];refine iteT ?_;refine U2 _ rfl a _ 0 (.int y) rfl rfl c hy (Y4 _ 2 ⟨rfl,rfl,(by show(0:Int) < 2;decide),rfl,Y3 _ rfl ?_⟩)
   refine ite2 (fun hd=>?_) (fun hd=>?_)
   . have hb:ns.getD 0 0%2=1:=by
      have:=of_decide_eq_true hd;rw[<-show y=ns.getD 0 0 from n];exact V.int.inj this
     refine U5 _ rfl _ rfl (U9 _ rfl a _ rfl (.inl c) (Y7 kk _ rfl rfl ⟨by rw[yR];omega,by rw[yR];omega⟩ (Y7 20 _ rfl rfl (.inl ⟨by decide,by decide⟩) (Y5 _ 1 rfl rfl (Y7 z _ rfl rfl ?_ (Y7 _ 1048576 rfl rfl (by show(0:Int) < 1048576;decide) (U6 _ rfl _ m rfl rfl d ?_)))))))
     . have:=Int.ediv_nonneg k0 (b:=((ns.map V.int).length:Int)) (by omega)
       omega
     . exact k _ (Int.emod_nonneg _ (by omega)) (Int.emod_lt_of_pos _ d) (by subst j;unfold tw;rw[if_neg g,if_pos hb,yR])
   . have hb:¬ns.getD 0 0%2=1:=by
      rw[<-show y=ns.getD 0 0 from n];exact fun q=>hd (decide_eq_true (congrArg V.int q))
     refine U6 _ rfl z 1000003 rfl rfl (by show(0:Int) < 1000003;decide) (U6 _ rfl 31 kk rfl rfl (.inl ⟨by decide,by decide⟩) (U6 _ rfl _ kk rfl rfl ⟨gG (by omega) (by omega),gG k0 (by omega)⟩ (Y5 _ _ rfl rfl (Y5 _ _ rfl rfl ?_))))
     refine U6 _ rfl _ 48271 rfl rfl (.inr ⟨by decide,by decide⟩) (Y7 _ 999983 rfl rfl (by show(0:Int) < 999983;decide) (Y7 _ 7919 rfl rfl (.inr ⟨by decide,by decide⟩) (Y7 _ 524287 rfl rfl (by show(0:Int) < 524287;decide) (U6 _ rfl _ m rfl rfl d ?_))))
     exact k _ (Int.emod_nonneg _ (by omega)) (Int.emod_lt_of_pos _ d) (by subst j;unfold tw;rw[if_neg g,if_neg hb];rfl)
open Wd Su
def ka:Sp:=fun vs H Q _=>∃(t b:Int),vs= [.int t, .int b]/\0 < b/\Big (Int.gcd t b:Int)/\∀(r:Addr) (H':Hp),H r=none->H'=upd H r (.tup [.int (low t b).1, .int (low t b).2])->Q (.ref r) H'
theorem scLo:FnScope ["_law_top","_law_bottom","_law_one","_law_other"] ["_law_top","_law_bottom"] (af lQ):= .of
theorem wQ(F:Fun K "_law_least" "_law_least" lQ f fd)(B:Blt mg):FnOk P w K mg base CX0 1 f fd ["_law_top","_law_bottom"] ka:=by
 refine F.ok scLo (fun vs H Q E h=>?_) (fun o A outer s H vs Q E hr h=>?_)
 . obtain⟨t,b,rfl,_⟩:=h;rfl
 . obtain⟨t,b,rfl,b0,c,k⟩:=h
   refine Y3 _ (ac (psA 2 scLo.nd (aG io rfl B.ab ip (a7 (pv 0) a9)))
    (ac (psA 3 scLo.nd (pv 1))
    (ac (dy PassesOwn.never (aw dA (pv 3) ad (aE _))
     (ag (rN (i:=2) (j:=3) rfl scLo.nd rfl rfl (by decide) rfl rfl (a7 (pv 3) (a7 (av dc (pv 2) (pv 3)) a9)) rfl)))
    (ag (aD (aX (a7 (av cE (pv 0) (pv 2)) (a7 (av cE (pv 1) (pv 2)) a9)))))))) ?_
   refine Y3 _ rfl (U5 t rfl _ rfl ?_);have m:(if t < 0 then -t else t)=(t.natAbs:Int):=by split<;>omega
   rw[m];have u:0 < Int.gcd t b:=zB t (by omega)
   refine jU (fun σ H'=>H'=H/\∃(x y:Nat),σ= [some (.int t),some (.int b),some (.int x),some (.int y)]/\Nat.gcd x y=Int.gcd t b) (fun σ _=>match σ with| [_,_,_,some (.int y)]=>y.natAbs|_=>0)
    ⟨rfl,U3 t.natAbs b.natAbs (by rw[show((b.natAbs:Nat):Int)=b by omega];rfl) rfl⟩ ?_ ?_
   . rintro σ H' ⟨rfl,x,y,rfl,e⟩;refine U9 _ rfl _ 0 rfl rfl (Y3 _ rfl ?_);by_cases z:(0:Int) < (y:Int)
     . rw[decide_eq_true z];refine iteT ?_;refine U5 _ rfl _ rfl (U6 _ rfl x y rfl rfl z (U3 _ _ rfl ?_));have hm:((x:Int)%(y:Int))=((x%y:Nat):Int):=by simp
       refine⟨⟨rfl,U3 y (x%y) ?_ ?_⟩,?_⟩
       . show[some (V.int t),some (V.int b),some (V.int (y:Int)),some (V.int ((x:Int)%(y:Int)))]=_;rw[hm]
       . rw[<-e,Nat.gcd_comm x y,Nat.gcd_rec y x,Nat.gcd_comm]
       . show((x:Int)%(y:Int)).natAbs < (y:Int).natAbs;rw[hm];have:=Nat.mod_lt x (show 0 < y by omega)
         omega
     . rw[decide_eq_false z];refine iteF ?_;have g:y=0:=by omega
       subst g;rw[Nat.gcd_zero_right]at e;subst e;refine Y3 _ rfl (U6 _ rfl t _ rfl rfl ⟨by omega,c⟩ (Y3 _ rfl (U6 _ rfl b _ rfl rfl ⟨by omega,c⟩ ⟨by show 2<=sizeLine;decide,fun r a=>?_⟩)))
       exact k r _ a rfl
   . intro σ H' R R' d h;obtain⟨v,e1,i,j,n,l,q,p,h⟩:=h;exact U9 v e1 i j n l (Y3 q p (d _ _ h))
def gg:Sp:=fun vs H Q _=>∃(v u:V) (p q:Fr) (m n:Nat),vs= [v,u]/\TrAt H v (frT p)/\TrAt H u (frT q)/\Gf m p/\Gf n q/\m+n+1<=8000/\
 ∀(x:V) (H':Hp) (r:Fr),Same H H'->TrAt H' x (frT r)->Sh r->rv r=rv p+rv q->Gf (m+n+1) r->Q x H'
def eV:Sp:=fun vs H Q _=>∃(v u:V) (p q:Fr) (m n:Nat),vs= [v,u]/\TrAt H v (frT p)/\TrAt H u (frT q)/\Gf m p/\Gf n q/\m+n<=8000/\
 ∀(x:V) (H':Hp) (r:Fr),Same H H'->TrAt H' x (frT r)->Sh r->rv r=rv p*rv q->Gf (m+n) r->Q x H'
theorem scLP:FnScope ["_law_one","_law_other"] ["_law_one","_law_other"] (af lR):= .of
theorem scLT:FnScope ["_law_one","_law_other"] ["_law_one","_law_other"] (af ji):= .of
theorem se(F:Fun K "_law_plus" "_law_plus" lR f fd)(zL:Cl P w K mg base 1 "_law_least" ["_law_top","_law_bottom"] ka):FnOk P w K mg base CX0 2 f fd ["_law_one","_law_other"] gg:=by
 refine F.ok scLP (fun vs H Q E h=>?_) (fun o A outer s H vs Q E hr h=>?_)
 . refine hZq fun q_ e_=>?_;obtain⟨v,u,p,q,m,n,rfl,_⟩:=h;subst e_;rfl
 refine hZq fun q_ e_=>?_;obtain⟨v,u,p,q,m,n,rfl,hv,hu,c,gq,j,k⟩:=h;obtain⟨a,rfl,ha⟩:=cG hv;obtain⟨b,rfl,hb⟩:=cG hu;subst e_;refine Y3 _ (ag (aD (ak zL hr (a7 (av c9 (av aR (aq aL (pv 0) ad fun _ _=>rfl) (aq aL (pv 1) ad fun _ _=>rfl)) (av aR (aq aL (pv 1) ad fun _ _=>rfl) (aq aL (pv 0) ad fun _ _=>rfl))) (a7 (av aR (aq aL (pv 0) ad fun _ _=>rfl) (aq aL (pv 1) ad fun _ _=>rfl)) a9))))) ?_;have i:Big p.1:=c.top.big (by omega)
 have p2:Big p.2:=c.bot.big (by omega)
 have l:Big q.1:=gq.top.big (by omega)
 have g:Big q.2:=gq.bot.big (by omega)
 refine U2 _ rfl a _ 0 (.int p.1) rfl rfl (SqT.of ha) rfl (U2 _ rfl b _ 1 (.int q.2) rfl rfl (SqT.of hb) rfl (Y7 _ _ rfl rfl ⟨i,g⟩ (U2 _ rfl b _ 0 (.int q.1) rfl rfl (SqT.of hb) rfl (U2 _ rfl a _ 1 (.int p.2) rfl rfl (SqT.of ha) rfl (Y7 _ _ rfl rfl ⟨l,p2⟩ (Y5 _ _ rfl rfl (U2 _ rfl a _ 1 (.int p.2) rfl rfl (SqT.of ha) rfl (U2 _ rfl b _ 1 (.int q.2) rfl rfl (SqT.of hb) rfl (Y7 _ _ rfl rfl ⟨p2,g⟩ ?_)))))))));have d:0 < p.2*q.2:=Au c.pos gq.pos
 have t:Lt2 (m+n+1) (p.1*q.2+q.1*p.2):=by
  refine Lt2.add (c.top.mul gq.bot) ?_;rw[Nat.add_comm];exact gq.top.mul c.bot
 have e:Lt2 (m+n+1) (p.2*q.2):=(c.bot.mul gq.bot).mono (by omega)
 refine Y7 _ _ rfl d (dR (e.big j) (by omega)) (fun r H1 x e1=>?_)
 subst e1;refine k (.ref r) _ _ (aa x) (bZ a8) (fm d) ?_ (mh d t e);rw[jk d];have n1:=ne0 c.pos;have n2:=ne0 gq.pos;unfold rv;simp only[Rat.intCast_mul,Rat.intCast_add];grind
theorem oU(F:Fun K "_law_times" "_law_times" ji f fd)(zL:Cl P w K mg base 1 "_law_least" ["_law_top","_law_bottom"] ka):FnOk P w K mg base CX0 2 f fd ["_law_one","_law_other"] eV:=by
 refine F.ok scLT (fun vs H Q E h=>?_) (fun o A outer s H vs Q E hr h=>?_)
 . obtain⟨v,u,p,q,m,n,rfl,_⟩:=h;rfl
 obtain⟨v,u,p,q,m,n,rfl,hv,hu,c,gq,i,k⟩:=h;obtain⟨a,rfl,ha⟩:=cG hv;obtain⟨b,rfl,hb⟩:=cG hu;refine Y3 _ (ag (aD (ak zL hr (a7 (av aR (aq aL (pv 0) ad fun _ _=>rfl) (aq aL (pv 1) ad fun _ _=>rfl)) (a7 (av aR (aq aL (pv 0) ad fun _ _=>rfl) (aq aL (pv 1) ad fun _ _=>rfl)) a9))))) ?_;have g:Big p.1:=c.top.big (by omega)
 have p2:Big p.2:=c.bot.big (by omega)
 have j:Big q.1:=gq.top.big (by omega)
 have l:Big q.2:=gq.bot.big (by omega)
 refine U2 _ rfl a _ 0 (.int p.1) rfl rfl (SqT.of ha) rfl (U2 _ rfl b _ 0 (.int q.1) rfl rfl (SqT.of hb) rfl (Y7 _ _ rfl rfl ⟨g,j⟩ (U2 _ rfl a _ 1 (.int p.2) rfl rfl (SqT.of ha) rfl (U2 _ rfl b _ 1 (.int q.2) rfl rfl (SqT.of hb) rfl (Y7 _ _ rfl rfl ⟨p2,l⟩ ?_)))));have d:0 < p.2*q.2:=Au c.pos gq.pos;have t:=c.top.mul gq.top;have e:=c.bot.mul gq.bot;refine Y7 _ _ rfl d (dR (e.big i) (by omega)) (fun r H1 x e1=>?_)
 subst e1;refine k (.ref r) _ _ (aa x) (bZ a8) (fm d) ?_ (mh d t e);rw[jk d];have n1:=ne0 c.pos;have n2:=ne0 gq.pos;unfold rv;simp only[Rat.intCast_mul];grind
open Tw Fm
structure Gm (T:List Tr) (t:Tr):Prop where
 gt:Gt t
 dep:t.depth<=39
 len:(tmC t).length<=1000
 mem:t∈T
theorem yJ{t:Tr}(h:Gt t):Dj.Hs t:=by
 cases h with
 |nm x hx=>exact⟨_,_,rfl⟩
 |ap f ts _ _ _ _=>exact⟨_,_,rfl⟩
def sumT(ps:List Pq):Tr:= .tup (ps.map prT)
def qN:Sp:=fun vs H Q _=>∃(l:Addr) (xs:List V) (pss:List (List Pq)) (T:List Tr),vs= [.ref l]/\H l=some (.lst xs)/\TrsAt H xs (pss.map sumT)/\(∀ps∈pss,∀p∈ps,Gm T p.1)/\T.length < 64/\
 ∀D ws us H',H D=none->Same H H'->H' D=some (.lst ws)->TrsAt H' ws us->us.Nodup->(∀x,x∈us↔∃ps∈pss,∃p∈ps,p.1=x)->Q (.ref D) H'
theorem scTmo:FnScope ["sums","found","pairs","term","share"] ["sums"] (af sTmo):= .of
theorem wB(F:Fun K "terms_of" "terms_of" sTmo f fd)(B:Blt mg)(zS:Cl P w K mg base 41 "shown_term" ["term"] (spSt 40)):
 FnOk P w K mg base CX0 42 f fd ["sums"] qN:=by
 refine F.okb scTmo fun vs H Q E h=>?_;refine hZq fun q_ e_=>?_;obtain⟨l,xs,pss,T,rfl,hl,hT,hg,cI,k⟩:=h;subst e_;refine⟨rfl,fun b7 A outer s hr=>?_⟩;have bi:(A.deeper (PyProof.Rows.envOfC (Str.ofString "terms_of") (af sTmo) s.heap.objs.size f b7)).units+60 < cLine:=by have:=hr.units;omega
 refine Y3 _ (ac (psA 1 scTmo.nd rV)
  (ac (bV PassesOwn.never rfl (bn (pv 0)) (pgA 2 scTmo.nd)
   (ag (bV PassesOwn.never rfl (fA (pv 2)) (ba rfl (aj (pgA 3 scTmo.nd) (aj (pgA 4 scTmo.nd) aQ)))
    (ag (bA (cU PySem.F.plainAttrs_dict PySem.F.slot_dict_setdefault PySem.F.type_dict_setdefault iB (pv 1) (a7 (ak zS hr (a7 (pv 3) a9)) (a7 (pv 3) a9))))))))
  (ag (aD (aG (Dj.call_sortedV rfl bi) rfl B.so PyProof.Rows.boot_sorted (a7 (wa PySem.F.plainAttrs_dict PySem.F.slot_dict_values PySem.F.type_dict_values oX (pv 1)) a9)))))) ?_
 have c2:(20000:Nat)<=sizeLine:=by decide +kernel
 intro d nd;have s1:Same H (upd H d (.dK [])):=aa nd;have b6:l≠d:=fun q=>by rw[q,nd]at hl;cases hl
 have bC:(upd H d (.dK [])) d=some (.dK []):=a8;have a4:=hT.len;rw[yR]at a4;refine J3 _ rfl l rfl ⟨xs,SqL.of (s1 _ _ hl)⟩ ?_
 refine dD (xs:=xs) (fun i σ H'=>(∃v2 v3 v4,σ= [some (.ref l),some (.ref d),v2,v3,v4])/\But1 d (upd H d (.dK [])) H'/\∃aC v,H' d=some (.dK aC)/\DictT H' aC v/\v.Nodup/\(∀x,x∈v↔∃ps∈pss.take i,∃p∈ps,p.1=x))
  ⟨⟨none,Y4 none none rfl⟩,fun x o _ e=>e,Y7 ([]) ([]) bC (.nil) List.nodup_nil (fun x=>by simp)⟩ (fun i σ H' _ p=>SqL.of (p.2.1 _ _ b6 (s1 _ _ hl))) ?_ ?_
 . intro i x σ H' ex z_;refine hZq fun q_ e_=>?_;obtain⟨⟨v2,v3,v4,rfl⟩,b1,aC,v,bb,cr,bw,bg⟩:=z_;obtain⟨u,eu,hu⟩:=hT.get' ex;rw[yW]at eu;obtain⟨ps,ep,rfl⟩:=za.mp eu;have bF:=z5 ep;have cd:Kd H H':=(Kd.of_same s1).trans (b1.kd bC);obtain⟨au,ys,rfl,a2,bj⟩:=at_t (hu.mono cd);subst e_;have yl:=bj.len;rw[yR]at yl;have b8:au≠d:=fun q=>by rw[q,bb]at a2;cases a2
   have bY:∀x∈v,x∈T:=fun x m=>by
    refine hZq fun q_ e_=>?_;obtain⟨qs,mq,p,mp,rfl⟩:=(bg x).mp m;subst e_;exact(hg qs (List.mem_of_mem_take mq) p mp).mem
   refine J3 _ rfl au rfl ⟨ys,SqT.of a2⟩ ?_
   refine jF (xs:=ys) (fun j σ a3=>(∃v3 v4,σ= [some (.ref l),some (.ref d),some (.ref au),v3,v4])/\But1 d H' a3/\∃a1 aB,a3 d=some (.dK a1)/\DictT a3 a1 aB/\aB.Nodup/\(∀x,x∈aB↔x∈v\/∃p∈ps.take j,p.1=x))
    ⟨(Y4 v3 v4 rfl),fun x o _ e=>e,Y7 aC v bb cr bw (fun x=>by simp)⟩ (fun i σ a3 _ p=>SqT.of (p.2.1 _ _ b8 a2)) ?_ ?_
   . intro j z σ H2 ez z_;refine hZq fun q_ e_=>?_;obtain⟨⟨v3,v4,rfl⟩,b2,n,c,ao,aT,r,ai⟩:=z_;have bP:Kd H' H2:=b2.kd bb;obtain⟨t',bv,bR⟩:=(bj.mono bP).get' ez;rw[yW]at bv;obtain⟨⟨tm,fr⟩,eq,rfl⟩:=za.mp bv;obtain⟨T',x,y,rfl,cm,hx,hy⟩:=cq bR;subst e_;have g:=hg ps bF _ (z5 eq);refine O3 T' _ rfl (SqT.of cm) rfl _ _ rfl _ _ rfl rfl ?_;refine Y8 _ rfl (.inr (.inr (.inl ⟨rfl, .inl ⟨n,ao⟩⟩))) (U6 _ rfl x tm rfl hx g.gt.ty ⟨(by have:tm.depth<=39:=g.dep;omega),g.len,fun z H3 s3 a6=>Y3 _ rfl ?_⟩)
     have a5:=s3 _ _ ao;have a0:=aT.mono (Kd.of_same s3)
     have bB:∀x∈c,x∈T:=fun x m=>by
      rcases(ai x).mp m with m|⟨p,mp,rfl⟩
      . exact bY x m
      . exact(hg ps bF p (List.mem_of_mem_take mp)).mem
     have l2:=ge r bB;refine Y6 d n (Sum.inr z) x ⟨rfl,rfl,a5,by rw[a0.len];omega,fun y' ev=>?_,fun ev=>?_⟩
     . have mt:tm∈c:=by
        by_cases m:tm∈c
        . exact m
        . rw[(a0.none_iff g.gt a6).mpr m]at ev;cases ev
       refine⟨(Y4 _ _ rfl),b2.trans (But1.of_same s3),Y7 n c a5 a0 r (fun x=>?_)⟩;rw[ai,aH eq];simp only[zw,zq];constructor
       . rintro(h|⟨p,mp,e⟩)
         . exact .inl h
         . exact .inr (Y3 p (.inl mp) e)
       . rintro(h|⟨p,mp|rfl,e⟩)
         . exact .inl h
         . exact .inr (Y3 p mp e)
         . exact(ai x).mp (e▸mt)
     . have mo:=(a0.none_iff g.gt a6).mp ev;have bI:Kd H3 (upd H3 d (.dK (n++ [(Sum.inr z,x)]))):=Dj.Kd.updK a5;refine⟨(Y4 _ _ rfl),(b2.trans (But1.of_same s3)).trans fun x o nx e=>by rw[ae nx];exact e,Y7 (n++ [(Sum.inr z,x)]) (c++ [tm]) a8 (Paired.snoc (a0.mono bI) (U8 z rfl a6 g.gt ((hx.mono (Kd.of_same s3)).mono bI))) ?_ (fun x=>?_)⟩
       . rw[List.nodup_append];exact⟨r,by simp,fun a ma b mb=>by rw[zq.mp mb];exact fun q=>mo (q▸ma)⟩
       . rw[zw,ai,aH eq];simp only[zw,zq];constructor
         . rintro((h|⟨p,mp,e⟩)|h)
           . exact .inl h
           . exact .inr (Y3 p (.inl mp) e)
           . exact .inr (Y3 _ (.inr rfl) h.symm)
         . rintro(h|⟨p,mp|rfl,e⟩)
           . exact .inl (.inl h)
           . exact .inl (.inr (Y3 p mp e))
           . exact .inr e.symm
   . intro σ H2 z_;refine hZq fun q_ e_=>?_;obtain⟨⟨v3,v4,rfl⟩,b2,n,c,ao,aT,r,ai⟩:=z_;subst e_;rw[yl,zp]at ai;refine⟨⟨_,Y4 _ _ rfl⟩,b1.trans b2,Y7 n c ao aT r (fun x=>?_)⟩;rw[ai,bg,aH ep];simp only[zw,zq];constructor
     . rintro(⟨qs,mq,h⟩|h)
       . exact Y3 qs (.inl mq) h
       . exact Y3 ps (.inr rfl) h
     . rintro⟨qs,mq|rfl,h⟩
       . exact .inl (Y3 qs mq h)
       . exact .inr h
 . intro σ H2 z_;refine hZq fun q_ e_=>?_;obtain⟨⟨v2,v3,v4,rfl⟩,b2,n,c,ao,aT,r,ai⟩:=z_;subst e_;rw[a4,zp]at ai;refine Y8 _ rfl (.inr (.inr (.inl ⟨rfl, .inl ⟨n,ao⟩⟩))) (Y7 d n rfl rfl ao (fun x nx=>?_));have s3:Same H2 (upd H2 x (j3 x d)):=aa nx
   have aA:∀t∈c,Gm T t:=fun t m=>by
    refine hZq fun q_ e_=>?_;obtain⟨qs,mq,p,mp,rfl⟩:=(ai t).mp m;subst e_;exact hg qs mq p mp
   have c4:c.length<=T.length:=ge r fun y my=>(aA y my).mem;refine Y6 x d n c ⟨rfl,a8,s3 _ _ ao,aT.vals.mono (Kd.of_same s3),by omega,fun t m=>⟨yJ (aA t m).gt,g9 (aA t m).gt.ty,by have:=(aA t m).dep;omega⟩,fun t m u m'=>pO 40 (by have:=(aA t m).dep;omega) (aA t m).gt.ty (aA u m').gt.ty,fun D ws us nD hp cn c3=>?_⟩
   have sH:Same H (upd (upd H2 x (j3 x d)) D (.lst ws)):=fun y o e=>aa nD _ _ (s3 _ _ (b2 y o (ay e nd) (s1 _ _ e)));refine k D ws us _ ?_ sH a8 (cn.mono (Kd.of_same (aa nD))) (hp.nodup_iff.mpr r) fun y=>by rw[hp.mem_iff,ai]
   have n2:=s3.free nD
   cases e:H D with
   |none=>rfl
   |some o=>rw[b2 D o (ay e nd) (s1 _ _ e)]at n2;cases n2
open Classical in
noncomputable def cw(s:Int)(t:Tr):List Pq->Int
 | []=>0
 |p::r=>if p.1=t then wh p.2 s else cw s t r
theorem ox{s:Int}{t:Tr}{p:Pq}:∀ {a:List Pq},p.1≠t->cw s t (a++ [p])=cw s t a
 | [],h=>by simp[cw,h]
 |q::r,h=>by
  simp only[zK,cw];split
  . rfl
  . exact ox h
theorem tG{s:Int}{t:Tr}{p:Pq}:∀ {a:List Pq},p.1=t->(∀q∈a,q.1≠t)->cw s t (a++ [p])=wh p.2 s
 | [],h,_=>by simp[cw,h]
 |q::r,h,hn=>by
  simp only[zK,cw];rw[if_neg (hn q yT)];exact tG h fun x m=>hn x (yU _ m)
theorem tI{s:Int}{t:Tr}{e:Nat}{M:Nat}:∀ {a:List Pq},(∀p∈a,0 < p.2.2/\p.2.1.natAbs<=M)->(cw s t a).natAbs<=M*s.natAbs
 | [],_=>by simp[cw]
 |q::r,h=>by
  simp only[cw];split
  . exact z7 (vi (h q yT).1) (Am _ (h q yT).2)
  . exact tI (e:=e) fun p m=>h p (yU _ m)
theorem cH(h:te σ H fun v H1=>aM i v σ H1 (u Z)):tSeq (tAsg te (aM i)) u Z σ H:=h
def nA:Sp:=fun vs H Q _=>∃(v:V) (ps:List Pq) (lt:Addr) (ws:List V) (us T:List Tr) (s:Int) (e:Nat),vs= [v, .ref lt, .int s]/\TrAt H v (sumT ps)/\Asc ps/\(∀p∈ps,Gm T p.1/\Gq e p)/\e<=8000/\Big s/\T.length < 64/\
 H lt=some (.lst ws)/\TrsAt H ws us/\(∀t∈us,Gm T t)/\us.length < 64/\∀l H',H l=none->Same H H'->H' l=some (.lst ((us.map fun t=>cw s t ps).map V.int))->Q (.ref l) H'
theorem scCto:FnScope ["pairs","terms","scale","counts"] ["pairs","terms","scale"] (af sCto):= .of
theorem wZ(F:Fun K "counts_of" "counts_of" sCto f fd)(zS:Cl P w K mg base 41 "shown_term" ["term"] (spSt 40))(zW:Cl P w K mg base 1 "whole_of" ["share","scale"] mU):
 FnOk P w K mg base CX0 42 f fd ["pairs","terms","scale"] nA:=by
 refine F.okb scCto fun vs H Q E h=>?_;refine hZq fun q_ e_=>?_;obtain⟨v,ps,lt,ws,us,T,sc,e,rfl,hv,o,ao,he,a5,bj,a2,aC,a3,ul,k⟩:=h;subst e_;refine⟨rfl,fun bB A outer s hr=>?_⟩;have a4:=yI hr;have bg:Room 1 _:=hr.mono (by decide)
 have aT:(["term","share","scale"]:List Str).Nodup:=by decide +kernel
 have bb:(["term","counts"]:List Str).Nodup:=by decide +kernel
 refine Y3 _ (ac (psR 3 scCto.nd (rZ (NC:= ["term","share","scale"]) (mp:= [none,none,some 2]) (g:=gTup K 2 (b9 (aM 0) (b9 (aM 1) gNil))) rfl (fA (pv 0))
  (fun _ _ _ _ _=>ba (n:=2) rfl (aj (pgA 0 aT) (aj (pgA 1 aT) aQ))) (fun _ _ _ _ _=>aV)
  (fun _ _ _ _ _=>ak zS hr (a7 (pv 0) a9)) (fun _ _ _ _ _=>ak zW bg (a7 (pv 1) (a7 (pv 2) a9)))))
  (ag (aD (aY (NC:= ["term","counts"]) (mp:= [none,some 3]) rfl (bn (pv 1)) (fun _ _ _ _ _=>pgA 0 bb) (fun _ _ _ _ _=>aV)
   (fun _ _ _ _ _=>rY a4 (pv 1) (ak zS hr (a7 (pv 0) a9)) ad ⟨rfl,rfl,rfl,rfl⟩))))) ?_
 have bw:(20000:Nat)<=sizeLine:=by decide +kernel
 refine hZq fun q_ e_=>?_;obtain⟨au,xs,rfl,ai,a0⟩:=at_t hv;subst e_;have xl:=a0.len;rw[yR]at xl;have pl:=asc_len o fun u m=>(ao u m).1.mem;refine cH ?_;refine pH (K':=K) (xs:=xs) (rest:= [some (.int sc)]) (a:=au) rfl (fun Q q=>Y3 _ rfl q) (SqT.of ai) fun L nL=>?_;refine U8 (fun j acc H'=>Same H H'/\H' L=some (.dK acc)/\acc.length<=j/\∀(t:Tr) (z:Str),Gt t->Dec.cl z=tmC t->(valV acc (Sum.inr z)).getD (.int 0)= .int (cw sc t (ps.take j))) ⟨aa nL,a8,yV _,fun t z _ _=>by rw[Aa];rfl⟩ (fun j bv H' p=>SqT.of (p.1 _ _ ai)) ?_ ?_
 . rintro j z acc H' hj ⟨d,hL,bi,b⟩ ez;refine hZq fun q_ e_=>?_;obtain⟨t',aA,a1⟩:=(a0.mono (Kd.of_same d)).get' ez;rw[yW]at aA;obtain⟨⟨tm,fr⟩,eq,rfl⟩:=za.mp aA;obtain⟨T',x,y,rfl,a6,hx,hy⟩:=cq a1;obtain⟨g,gq⟩:=ao _ (z5 eq);subst e_;have jl:j < ps.length:=(yZ.mp eq).1;refine J2 T' x y rfl (SqT.of a6) ?_;refine U6 _ rfl x tm rfl hx g.gt.ty ⟨(by have:tm.depth<=39:=g.dep;omega),g.len,fun z H6 s6 c=>Y3 (Sum.inr z) rfl ?_⟩
   refine Y3 _ rfl (J4 _ rfl y fr sc rfl ⟨hy.mono (Kd.of_same s6),gq.gf.pos,gq.gf.bot.big (by omega),gq.gf.top.big (by omega),a5,?_⟩)
   refine CompD.mk hj (by omega) (s6 _ _ hL) ⟨az nL (d.trans s6),a8,?_,fun t z' gt r=>?_⟩
   . have:=fT acc (Sum.inr z) (.int (wh fr sc));omega
   . rw[pN,aH eq];by_cases q:(Sum.inr z':Key)=Sum.inr z
     . rw[if_pos q];have q':=Sum.inr.inj q;subst q';have et:t=tm:=gt.inj g.gt (r.symm.trans c);subst et;rw[tG (p:=(t,fr)) (t:=t) rfl fun q mq=>?_]
       . rfl
       . obtain⟨i,hi,e1⟩:=Ac mq;rw[zv]at hi;rw[List.getElem_take]at e1;have:=A7.mp o i j (by omega) jl (by omega)
         rw[e1,show ps[j]=(t,fr)from(yZ.mp eq).2]at this;exact fR this
     . rw[if_neg q,b t z' gt r,ox];intro h;have h':tm=t:=h;subst h';exact q (by rw[Dec.cl_inj (r.trans c.symm)])
 intro kvs H1 z_;refine hZq fun q_ e_=>?_;obtain⟨s1,hL,bi,b⟩:=z_;subst e_;rw[xl,zp]at b;have l:=s1 _ _ a2;have wl:=aC.len;refine J3 _ rfl lt rfl ⟨ws,SqL.of l⟩ (fun D nD=>?_);refine bh (xs:=ws) (fun j acc H'=>Same H1 H'/\H' D=some (.lst acc)/\acc=((us.take j).map fun t=>cw sc t ps).map V.int) ⟨aa nD,a8,rfl⟩ (fun j acc H' p=>SqL.of (p.1 _ _ l)) ?_ ?_
 . intro j x acc H' hj ex z_;refine hZq fun q_ e_=>?_;obtain⟨d,hD,rfl⟩:=z_;obtain⟨t,et,ht⟩:=(aC.mono (Kd.of_same (s1.trans d))).get' ex;subst e_;have g:=a3 t (z5 et);have aB:=d _ _ hL;refine J3 _ rfl L rfl (.inl ⟨kvs, .inl aB⟩) ?_;refine U6 _ rfl x t rfl ht g.gt.ty ⟨(by have:=g.dep;omega),g.len,fun z H6 s6 c=>Y3 _ (DGet.k (k:=Sum.inr z) (s6 _ _ aB)) ?_⟩
   have jl:j < us.length:=(yZ.mp et).1;refine CompN.mk hj (by rw[yR,yR,zv];omega) (s6 _ _ hD) ⟨az nD (d.trans s6),a8,?_⟩
   rw[b t z g.gt c,aH et];simp
 . rintro acc H2 ⟨d,hD,rfl⟩;rw[wl,zp]at hD;exact k D H2 (s1.free nD) (s1.trans d) hD
end K46
namespace Dj
open PySem PySem.Spec PyProof.Rows L2 Tre
noncomputable def lJ(P:Program)(w:World)(K:PySem.W.Frag)(mp:List (Option Nat))(wi:TI)(g:TG)(tc:TT)(tk te:TE):TE:=fun σ H Q=>wi σ H fun J H1=>∀D,H1 D=none->
 ∃W:Nat->Nat->List Ent->Hp->Prop,(∃m,W 0 m [] (upd H1 D (dJ P w D [])))/\∀i m acc H2,W i m acc H2->
  (J.stop i H2/\Q (.ref D) H2)\/
  (J.go i H2/\∀x H3,J.yld i H2 x H3->g x (subS mp σ) H3 fun σ4 H4=>Ext (subS mp σ) σ4/\tc σ4 H4 fun b H5=>if b=true then tk σ4 H5 fun y H6=>∃b k,y= .ref b/\te σ4 H6 fun v H7=>DJ P w K H7 D acc/\KeyAt K H7 k b/\acc.length < sizeLine/\∃m',m' < m/\W (i+1) m' (putJ acc k b v) (upd H7 D (dJ P w D (putJ acc k b v)))
   else∃m',m' < m/\W (i+1) m' acc H5)
theorem pe_compJ{pos:Pos}{g:TG}(hcalm:X.calm=true)(hu:X.A.units+30 < cLine)(hi:PI X target iter wi)(hg:∀C s H fp pn,PG (XC X scope NC C s H fp pn) target g)(ht:∀C s H fp pn,PTs (XC X scope NC C s H fp pn) ifs tc)(hkx:∀C s H fp pn,PE (XC X scope NC C s H fp pn) kx tk)(he:∀C s H fp pn,PE (XC X scope NC C s H fp pn) vx te)(hl:mp.length=NC.length:=by rfl)(hm:fP X.N NC mp scope.names X.env.scope.names=true:=by rfl)(hc:bL scope.names X.env.cells=true:=by rfl)(hk:scope.kind= .function:=by rfl)(hnc:∀y∈scope.names,y.2≠ .cell:=by decide +kernel)(hnm:∀y∈scope.names,y.2= .local->scope.names.lookup y.1=some .local:=by decide +kernel)(hs:∀x,foldedSetIterable iter X.env x=pure x:=by intro _;rfl):
 PE X (.DictComp kx vx [⟨target,iter,ifs,0⟩] scope pos) (lJ X.prog X.w X.K mp wi g tc tk te):=by
 intro pins s σ H Q I h;rw[arm_eval_DictComp];refine wpAny_comprehension_free (use:=none) rfl hs (gE hc) hk hnm (thn (hi pins s σ H _ I h) fun v s1 h1=>thn h1 fun a2 d h2=>?_);refine hZq fun q_ e_=>?_;obtain⟨it,fp,tn,J,H2,e,u,T,ao,f2,W⟩:=h2;subst e_;subst e;refine wpAny_newObj_type ?_;refine hZq fun q_ e_=>?_;obtain⟨W,⟨m0,w0⟩,turn⟩:=W _ (u.hok.fresh (yV _));subst e_
 refine wpAny_mono (dP (e:= .DictComp kx vx [⟨target,iter,ifs,0⟩] scope pos) (b0:=dJ X.prog X.w d.heap.objs.size []) (R:=compPost (model X.prog X.w) X.A X.xe none (EP X pins σ Q) (.ref d.heap.objs.size)) (M:=qF kx vx d.heap.objs.size) hcalm hg ht hl hm hc hk hnc u T ao f2 (kR d.heap u.big) w0 turn (fun _=>⟨rfl,fun _ _=>rfl,fun _=>rfl⟩) ?_
  fun s3 H3 I3 f3 s5 σ5 H5 I5 q=>ig (v:= .ref d.heap.objs.size) I3 f3 I5 rfl q)
  (fun a0 s4 ⟨st,loop⟩=>codeAny_compStart_dict loop (T.self _ 0 _ _ _ st loop)) fun _ _ e=>e
 intro C s H pn aB s9 σ8 H9 i m acc I9 q9;refine mT (thn (hkx _ _ _ _ _ _ s9 σ8 H9 _ I9 q9) fun kv t ⟨y,r,ai,p,b,k,ek,qv⟩=>?_);subst ek;obtain rfl:kv=Value.ref b:=p;refine thn (he _ _ _ _ _ _ t σ8 r _ ai qv) fun v a3 ⟨z,a1,a,o,f,kb,hz,m',l,w'⟩=>?_;refine hZq fun q_ e_=>?_;obtain⟨z1,aC,aA,c,n⟩:=fX a.hok a.kIn f;subst e_;have j:aA.length<=sizeLine:=by rw[<-Paired.length c];exact z1
 have au:(putJ acc k b z).length<=sizeLine:=by have:=fU acc k b z;omega
 refine wpAny_dictSet_heap (hsz:=j) (by show X.A.units+20 < cLine;omega) (kb.is a.hok a.kIn) n fun h' aT hs=>?_
 refine hZq fun q_ e_=>?_;obtain⟨q,es,ep,hq,h2,h3,h4,_,h5⟩:=aT;subst e_;exact J2 _ m' _ (gA a (by rw[f.at_];exact True.intro) hs ⟨q,hq⟩ (mn au aC (c.put k o) (U4 q es ep hq h2 h3 h4 h5))) l w'
end Dj
namespace L2
open PySem PySem.Spec PyProof.Rows
theorem ii{g:TG}{Q:VK}(ha:∀Q:List V->Hp->Prop,Q [.ref a] H1->ta σ H1 Q)(h1:SqL K H1 a xs)(h:∀D,H1 D=none->∃Pv:Nat->List V->Hp->Prop,Pv 0 [] (upd H1 D (.lst []))/\(∀i acc H,Pv i acc H->SqL K H a xs)/\
  (∀i T x acc H,i < xs.length->i < sizeLine->Pv i acc H->xs[i]?=some x->H T=none->g (.ref T) (subS mp σ) (upd H T (.tup [.int i,x])) fun σ4 H4=>Ext (subS mp σ) σ4/\tc σ4 H4 fun b H5=>if b=true then te σ4 H5 (CompN xs.length i D acc Pv)else CompS xs.length i acc Pv H5)/\∀acc H,Pv xs.length acc H->Q (.ref D) H):
 bU mp (vH K ta) g tc te σ H1 Q:=by
 unfold bU;refine ha _ (Y5 a xs rfl h1 (fun D f=>?_));obtain⟨Pv,e,k,ps,l⟩:=h D f;refine Y3 (fun i m acc H=>m=xs.length - i/\i<=xs.length/\Pv i acc H) (Y8 xs.length (by simp) (zc _) e) ?_
 rintro i m acc H ⟨rfl,hi,p⟩;have d:=k i acc H p;by_cases c:i < xs.length
 . refine .inr ⟨(U3 xs (xs[i]) d (by simp[c])),?_⟩
   rintro v H' ⟨T,x,rfl,j,rfl,y1,z⟩;exact ps i T x acc H c z p (y1 xs d) j
 . have ei:i=xs.length:=by omega
   subst ei;exact .inl ⟨(Y3 xs d (yV _)),l acc H p⟩
end L2
namespace Dj
open PySem PySem.Spec PyProof.Rows L2 Tre
noncomputable def CompJ(P:Program)(w:World)(K:PySem.W.Frag)(n i:Nat)(D:Addr)(acc:List Ent)(Pv:Nat->List Ent->Hp->Prop)(k:List Tk.KT)(b:Addr):VK:=fun v H7=>DJ P w K H7 D acc/\KeyAt K H7 k b/\acc.length < sizeLine/\∃m',m' < n - i/\(m'=n - (i+1)/\i+1<=n/\Pv (i+1) (putJ acc k b v) (upd H7 D (dJ P w D (putJ acc k b v))))
theorem CompJ.mk{acc:List Ent}{Pv:Nat->List Ent->Hp->Prop}{k:List Tk.KT}{b:Addr}(hi:i < n)(hl:acc.length < sizeLine)(h1:DJ P w K H7 D acc)(hk:KeyAt K H7 k b)(h2:Pv (i+1) (putJ acc k b v) (upd H7 D (dJ P w D (putJ acc k b v)))):CompJ P w K n i D acc Pv k b v H7:=
 ⟨h1,hk,hl,U8 (n - (i+1)) (by omega) rfl hi h2⟩
end Dj
namespace L2
open PySem PySem.Spec PyProof.Rows
theorem gx(x:h.IsListIter a l i):∃o,h.get? a=some o/\∀v,o.data≠ .cell v:=
 let ⟨o,e,_,d⟩:=x
 ⟨o,e,fun v z=>by rw[d]at z;cases z⟩
def ItzL(K:PySem.W.Frag)(a b:Addr):It:=
 ⟨fun i H=>∃xs ys x y,SqL K H a xs/\SqL K H b ys/\xs[i]?=some x/\ys[i]?=some y,
  fun i H v H'=>∃T x y,v= .ref T/\H T=none/\H'=upd H T (.tup [x,y])/\(∀xs,SqL K H a xs->xs[i]?=some x)/\(∀ys,SqL K H b ys->ys[i]?=some y)/\i < sizeLine,
  fun i H=>∃xs ys,SqL K H a xs/\SqL K H b ys/\xs.length<=i⟩
theorem oC{pos:Pos}(a b z TI TO i1 i2:Addr)(hd: [z,TI,TO,i1,i2].Nodup):
 Turn P w K (.Tuple es kk pos) (ItzL K a b) [z,TI,TO,i1,i2] z (fun i h=>IsZip h z TI TO .none/\IsPair h TI (.ref i1) (.ref i2)/\(∃u v,IsPair h TO u v)/\h.IsListIter i1 a i/\h.IsListIter i2 b i/\a∉ [z,TI,TO,i1,i2]/\b∉ [z,TI,TO,i1,i2]) where
 mem:=by simp
 obj:=fun i h ⟨h1,h2,⟨u,v,h3⟩,k,j,_⟩ c hc=>by
  simp only[yY,zf,or_false]at hc;rcases hc with rfl|rfl|rfl|rfl|rfl
  . exact Y3 _ h1 (fun v e=>by cases (show Data.fields _=Data.cell v from e))
  . exact Y3 _ h2 (fun v e=>by cases (show Data.seq _ _=Data.cell v from e))
  . exact Y3 _ h3 (fun v e=>by cases (show Data.seq _ _=Data.cell v from e))
  . exact gx k
  . exact gx j
 keep:=fun i h h' ⟨h1,h2,⟨u,v,h3⟩,k,j,f⟩ kp=>⟨kp z (by simp) _ h1,kp TI (by simp) _ h2,(Y4 u v (kp TO (by simp) _ h3)),Heap.IsListIter.at k fun o e=>kp i1 (by simp) o e,Heap.IsListIter.at j fun o e=>kp i2 (by simp) o e,f⟩
 item:=by
  intro X hP hw hK hc i pins s σ H E I hf ⟨h1,h2,⟨u0,v0,h3⟩,k,j,f,g⟩ hg;subst hP hw hK;refine hZq fun q_ e_=>?_;obtain⟨xs,ys,x,y,r,g2,t,g4⟩:=hg;obtain⟨as,r1,p1,z1⟩:=I.list r;obtain⟨bs,r2,p2,z2⟩:=I.list g2;obtain⟨u,e1,q1⟩:=r1.get t;obtain⟨v,e2,q2⟩:=r2.get g4;simp only[Ab,yY,zf,or_false,not_or,List.nodup_nil,and_true,not_false_eq_true]at hd f g;obtain⟨⟨d1,d2,d3,d4⟩,⟨d5,d6,d7⟩,⟨d8,d9⟩,p⟩:=hd;subst e_;have D:ZipApart z TI TO i1 i2 a b:=⟨Ne.symm d1,Ne.symm d2,Ne.symm d3,Ne.symm d4,d5,d6,d7,d8,d9,p,f.1,f.2.2.1,f.2.2.2.1,f.2.2.2.2,g.1,g.2.2.1,g.2.2.2.1,g.2.2.2.2⟩;refine wpAny_pyNext_zip_item D h1 h2 h3 k j p1.isList p2.isList (x:=u) (y:=v) (by simpa using e1) (by simpa using e2) fun h' a1 a2 a3 a4 a5 a6 up=>Y3 _ rfl ?_
  refine wpAny_letOwnedTupleGo_zip (s:= {s with heap:=h'}) a1 fun l b1 sb=>?_;have T:=s.heap.objs.size;have fr:H s.heap.objs.size=none:=I.hok.fresh (yV _);have lt:∀ {c:Addr} {o:Obj},s.heap.get? c=some o->c≠s.heap.objs.size:=fun e=>zo (Heap.lt_size e)
  have all:∀c o,c∉ [z,TI,TO,i1,i2]->s.heap.get? c=some o->l.get? c=some o:=fun c o n e=>by
   simp only[yY,zf,or_false,not_or]at n;exact sb.extBut c o n.1 (up c o n.1 n.2.2.1 n.2.2.2.1 n.2.2.2.2 e)
  have nz:s.heap.objs.size≠z:=(lt h1).symm;have pT:IsPair l s.heap.objs.size u v:=sb.extBut _ _ nz a5
  have fp:∀b∈ [z,TI,TO,i1,i2],upd H s.heap.objs.size (.tup [x,y]) b=none:=fun c hc=>by
   have nc:c≠s.heap.objs.size:=by
    simp only[yY,zf,or_false]at hc;rcases hc with rfl|rfl|rfl|rfl|rfl
    . exact lt h1
    . exact lt h2
    . exact lt h3
    . obtain⟨o,e,_⟩:=gx k;exact lt e
    . obtain⟨o,e,_⟩:=gx j;exact lt e
   rw[ae nc];exact(hf c hc).1
  refine Y4 (.ref s.heap.objs.size) (upd H s.heap.objs.size (.tup [x,y])) ⟨?_,rfl,(U4 _ x y rfl fr rfl (fun zs hz=>?_) ⟨fun zs hz=>?_,ze (yZ.mp t).1 z1⟩),⟨b1,?_,(Y4 u v ?_),?_,?_,?_,?_⟩,fp⟩
  ·
   refine I.call' (s':= {s with heap:=l}) (ch:= [z,TI,TO,i1,i2]) rfl ⟨fun b o e _ _ hx=>all b o hx e,fun b o e _ _ hx=>⟨o.slots,all b o hx e⟩,fun c o e n _=>by rw[ae (lt e)];exact n,fun b o e hx=>⟨o,all b o hx e⟩,fun c zs e=>by rw[ae (ay e fr)];exact e,fun c o zs e=>by rw[ae (ay e fr)];exact e,fun c ps e=>⟨#[],by rw[ae (ay e fr),e];simp⟩⟩ ?_ I.bare fun b hb=>?_
   . intro c o e;by_cases ai:c=s.heap.objs.size
     . subst ai;rw[a8]at e;cases e;exact⟨by show 2<=sizeLine;decide,Y3 ([u,v]) (.cons q1 (.cons q2 .nil)) (J6 _ pT rfl _ rfl)⟩
     . rw[ae ai]at e;have nb:∀c u,H c=some u->c∉ [z,TI,TO,i1,i2]:=fun c u e hz=>by rw[(hf c hz).1]at e;cases e
       refine(I.hok c o e).stay (fun d v hc q=>all d v ?_ q) (fun d q=>?_) fun d m q=>?_
       . rcases hc with hz|hz
         . rw[hz];exact nb c o e
         . exact nb d _ hz
       . rw[ae (ay q fr)];exact q
       . rw[ae (ay q fr)];exact q
   . refine hZq fun q_ e_=>?_;obtain⟨g0,r,g2,t,g4,g5⟩:=hf b hb;subst e_;exact⟨t,r,g4,g5⟩
  . rw[I.list_inj hz r];exact t
  . rw[I.list_inj hz g2];exact g4
  . exact sb.extBut _ _ D.TIz (up _ _ D.TIz D.TITO D.TIi1 D.TIi2 h2)
  . exact sb.extBut _ _ D.TOz a2
  . exact Heap.IsListIter.at a3 fun o e=>sb.extBut _ o D.i1z e
  . exact Heap.IsListIter.at a4 fun o e=>sb.extBut _ o D.i2z e
  . simpa using f
  . simpa using g
 done:=by
  intro X hP hw hK hc i pins s σ H E I hf ⟨h1,h2,⟨u0,v0,h3⟩,k,j,f,g⟩ hg;subst hP hw hK;refine hZq fun q_ e_=>?_;obtain⟨xs,ys,r,g2,t⟩:=hg;obtain⟨as,r1,p1,z1⟩:=I.list r;obtain⟨bs,r2,p2,z2⟩:=I.list g2;have hl:=r1.length;simp only[Ab,yY,zf,or_false,not_or,List.nodup_nil,and_true,not_false_eq_true]at hd f g;obtain⟨⟨d1,d2,d3,d4⟩,⟨d5,d6,d7⟩,⟨d8,d9⟩,p⟩:=hd;subst e_;have D:ZipApart z TI TO i1 i2 a b:=⟨Ne.symm d1,Ne.symm d2,Ne.symm d3,Ne.symm d4,d5,d6,d7,d8,d9,p,f.1,f.2.2.1,f.2.2.2.1,f.2.2.2.2,g.1,g.2.2.1,g.2.2.2.1,g.2.2.2.2⟩;refine wpAny_pyNext_zip_end (I.ok.hd hc) D h1 h2 h3 k j p1.isList p2.isList (.inl (by simp;omega)) fun h' up=>⟨rfl,I.turneds (t':=s.toks) (fun c o n e=>?_) hf⟩
  simp only[yY,zf,or_false,not_or]at n;exact up c o n.1 n.2.2.1 n.2.2.2.1 n.2.2.2.2 e
 self:=fun _ _ _ _ _ st h=>wpAny_pyIter_zip st.1 h
def kK(K:PySem.W.Frag)(ta:TA):TI:=fun σ H R=>ta σ H fun vs H1=>∃a b xs ys,vs= [.ref a, .ref b]/\SqL K H1 a xs/\SqL K H1 b ys/\R (ItzL K a b) H1
theorem eZ{pt:Pos}{x y:Expr}{pos:Pos}(hg:Gl X "zip")(hm:X.mg "zip"=none)(ha:PA X [x,y] ta)(hs:starEach [x,y] X.env= [(false,eval x X.env),(false,eval y X.env)]:=by rfl)(hs2:starEach [y] X.env= [(false,eval y X.env)]:=by rfl):
 PI X (.Tuple es kk pt) (.Call (.Name "zip" p) [x,y] [] pos) (kK X.K ta):=by
 intro pins s σ H R I h;refine Call_ (dB I hg hm PyProof.Rows.boot_zip (PyProof.Rows.callWith_type1 (thn (ha pos pins s σ H _ I h) fun us s1 ⟨vs,H1,f,r1,n⟩=>?_) (by rw[hs,hs2]) (by rw[hs2];rfl)))
 obtain⟨a,b,xs,ys,e,k1,k2,q⟩:=n;subst e
 cases r1 with
 |cons r i=>
  cases i with
  |cons r' i=>
   cases i;cases r;cases r';obtain⟨as,_,l,_⟩:=f.list k1;obtain⟨bs,_,p2,_⟩:=f.list k2;refine call_zip_2 l.isList p2.isList fun h' hz m t t1 t2 sz up=>?_;refine wpAny_pyIter_zip (s:= {s1 with heap:=h'}) hz ?_
   have g:a < s1.heap.objs.size:=by
    obtain⟨o,e,_⟩:=l.isList;exact Heap.lt_size e
   have k:b < s1.heap.objs.size:=by
    obtain⟨o,e,_⟩:=p2.isList;exact Heap.lt_size e
   have d:∀j,a≠s1.heap.objs.size+j:=fun j=>zo (ze g (AC ..));have nb:∀j,b≠s1.heap.objs.size+j:=fun j=>zo (ze k (AC ..))
   have le:∀c∈ [s1.heap.objs.size+4,s1.heap.objs.size+2,s1.heap.objs.size+3,s1.heap.objs.size+0,s1.heap.objs.size+1],s1.heap.objs.size<=c:=fun c hc=>by
    simp only[yY,zf,or_false]at hc;rcases hc with rfl|rfl|rfl|rfl|rfl<;>exact AC ..
   refine O6 (s1.heap.objs.size+4) ([s1.heap.objs.size+4,s1.heap.objs.size+2,s1.heap.objs.size+3,s1.heap.objs.size+0,s1.heap.objs.size+1]) _ _ H1 rfl (f.kept (t':=s1.toks) up) (oC a b _ _ _ _ _ (by simp)) ⟨hz,m,(Y4 _ _ t),t1,t2,?_,?_⟩ (fun c hc=>f.fpOk (le c hc) (f.hok.fresh (le c hc))) q
   . simp only[yY,zf,or_false,not_or];exact⟨d 4,d 2,d 3,d 0,d 1⟩
   . simp only[yY,zf,or_false,not_or];exact⟨nb 4,nb 2,nb 3,nb 0,nb 1⟩
end L2
namespace L2
open PySem PySem.Spec PyProof.Rows
theorem eK{b:Addr}{g:TG}{Q:VK}(hl:xs.length<=ys.length)(ha:∀Q:List V->Hp->Prop,Q [.ref a, .ref b] H1->ta σ H1 Q)(h1:SqL K H1 a xs)(h2:SqL K H1 b ys)(h:∀D,H1 D=none->∃Pv:Nat->List V->Hp->Prop,Pv 0 [] (upd H1 D (.lst []))/\(∀i acc H,Pv i acc H->SqL K H a xs/\SqL K H b ys)/\
  (∀i T x y acc H,i < xs.length->i < sizeLine->Pv i acc H->xs[i]?=some x->ys[i]?=some y->H T=none->g (.ref T) (subS mp σ) (upd H T (.tup [x,y])) fun σ4 H4=>Ext (subS mp σ) σ4/\tc σ4 H4 fun b H5=>if b=true then te σ4 H5 (CompN xs.length i D acc Pv)else CompS xs.length i acc Pv H5)/\∀acc H,Pv xs.length acc H->Q (.ref D) H):
 bU mp (kK K ta) g tc te σ H1 Q:=by
 unfold bU;refine ha _ (Y6 a b xs ys ⟨rfl,h1,h2,fun D j=>?_⟩);obtain⟨Pv,f,n,ps,o⟩:=h D j;refine Y3 (fun i m acc H=>m=xs.length - i/\i<=xs.length/\Pv i acc H) (Y8 xs.length (by simp) (zc _) f) ?_
 rintro i m acc H ⟨rfl,hi,p⟩;obtain⟨d,e⟩:=n i acc H p;by_cases c:i < xs.length
 . refine .inr ⟨(Y6 xs ys (xs[i]) (ys[i]'(by omega)) ⟨d,e,by simp[c],yS _⟩),?_⟩
   rintro v H' ⟨T,x,y,rfl,l,rfl,y1,k,z⟩;exact ps i T x y acc H c z p (y1 xs d) (k ys e) l
 . have ei:i=xs.length:=by omega
   subst ei;exact .inl ⟨(Y5 xs ys d e (yV _)),o acc H p⟩
theorem pw{b:Addr}{g:TG}{tb:TS}{D:Ends}(hl:xs.length<=ys.length)(Pv:Nat->St->Hp->Prop)(h0:Pv 0 σ H)(hq:∀i σ H,i<=xs.length->Pv i σ H->SqL K H a xs/\SqL K H b ys)(hs:∀i T x y σ H,xs[i]?=some x->ys[i]?=some y->i < sizeLine->Pv i σ H->H T=none->g (.ref T) σ (upd H T (.tup [x,y])) fun σ2 H2=>tb {D with nx:=Pv (i+1),ct:=Pv (i+1),bk:=D.nx} σ2 H2)(hd:∀σ H,Pv xs.length σ H->D.nx σ H):
 ∃W:Nat->Nat->St->Hp->Prop,(∃m,W 0 m σ H)/\∀i m σ H,W i m σ H->
  ((ItzL K a b).stop i H/\D.nx σ H)\/((ItzL K a b).go i H/\∃N:St->Hp->Prop,(∀σ' H',N σ' H'->∃m',m' < m/\W (i+1) m' σ' H')/\∀x H',(ItzL K a b).yld i H x H'->g x σ H' fun σ2 H2=>tb {D with nx:=N,ct:=N,bk:=D.nx} σ2 H2):=by
 refine Y3 (fun i m σ H=>m=xs.length - i/\i<=xs.length/\Pv i σ H) (Y8 xs.length (by simp) (zc _) h0) ?_
 rintro i m σ H ⟨rfl,hi,p⟩;obtain⟨d,e⟩:=hq i σ H hi p;by_cases c:i < xs.length
 . refine .inr ⟨(Y6 xs ys (xs[i]) (ys[i]'(by omega)) ⟨d,e,by simp[c],yS _⟩),Y3 (Pv (i+1)) (fun σ' H' f=>(U8 (xs.length - (i+1)) (by omega) rfl c f)) ?_⟩
   rintro v H' ⟨T,x,y,rfl,j,rfl,y1,h,z⟩;exact hs i T x y σ H (y1 xs d) (h ys e) z p j
 . have ei:i=xs.length:=by omega
   subst ei;exact .inl ⟨(Y5 xs ys d e (yV _)),hd σ H p⟩
end L2
namespace Dj
open PySem PySem.Spec PyProof.Rows L2 Tre
theorem comp_zipJL{b:Addr}{Q:VK}(e:subS mp σ=none::none::rest)(hl:xs.length<=ys.length)(ha:∀Q:List V->Hp->Prop,Q [.ref a, .ref b] H1->ta σ H1 Q)(h1:SqL K H1 a xs)(h2:SqL K H1 b ys)(h:∀D,H1 D=none->∃Pv:Nat->List Ent->Hp->Prop,Pv 0 [] (upd H1 D (dJ P w D []))/\(∀i acc H,Pv i acc H->SqL K H a xs/\SqL K H b ys)/\
  (∀i T x y acc H,i < xs.length->Pv i acc H->xs[i]?=some x->ys[i]?=some y->H T=none->tk (some x::some y::rest) (upd H T (.tup [x,y])) fun yk H6=>∃b' k,yk= .ref b'/\te (some x::some y::rest) H6 (CompJ P w K xs.length i D acc Pv k b'))/\∀acc H,Pv xs.length acc H->Q (.ref D) H):
 lJ P w K mp (kK K ta) (gTup K' 2 (b9 (aM 0) (b9 (aM 1) gNil))) cY tk te σ H1 Q:=by
 unfold lJ;rw[e];refine ha _ (Y6 a b xs ys ⟨rfl,h1,h2,fun D j=>?_⟩);obtain⟨Pv,g,o,ps,q⟩:=h D j;refine Y3 (fun i m acc H=>m=xs.length - i/\i<=xs.length/\Pv i acc H) (Y8 xs.length (by simp) (zc _) g) ?_
 rintro i m acc H ⟨rfl,hi,p⟩;obtain⟨d,f⟩:=o i acc H p;by_cases c:i < xs.length
 . refine .inr ⟨(Y6 xs ys (xs[i]) (ys[i]'(by omega)) ⟨d,f,by simp[c],yS _⟩),?_⟩
   rintro v H' ⟨T,x,y,rfl,n,rfl,y1,l,z⟩;exact O3 T ([x,y]) rfl (SqT.of a8) rfl x ([y]) rfl y ([]) rfl rfl ⟨ext2,ps i T x y acc H c p (y1 xs d) (l ys f) n⟩
 . have ei:i=xs.length:=by omega
   subst ei;exact .inl ⟨(Y5 xs ys d f (yV _)),q acc H p⟩
end Dj
namespace L2
open PySem PySem.Spec PyProof.Rows
theorem p9{mb:Str->Option Value}{CX:CXT}{k:Nat}{s₁:Shared}{vs:List Value}(KX:K.In s₁.heap)(hns:s₁.heap.Ns mainGlobals mg)(hb:s₁.heap.Ns builtinsNs mb)(hbb:∀x:Str,x≠"__name__"->mb x=bootBuiltins x)(hlim:s₁.heap.NoLimit)(hg:s₁.gens= #[])(ha:s₁.heap.get? a=some {cls:= .type "list",data:= .seq vs.toArray})(hi:IntsAre vs ns)(hl:ns.length<=sizeLine)(hr:Room k callerA)(hT0:s₁.heap.get? T0=some (PySem.W.tabObj #[]))(kT0:K.lookup T0=none)(cT0:PySem.W.codeHdIn K c0 T0=true)(hbm:s₁.heap.BuiltinsAt mg T0)(F:∀base:Heap,K.In base->base.Ns mainGlobals mg->base.BuiltinsAt mg T0->FnOk P w K mg base CX k fa fd [x] sp)(hbind:∀(s:Shared) (u:Value),BindsTo s fd ⟨[u],[]⟩ [(x,u)])(hsp:∀H:Hp,H T0=some (.tbl #[])->SqL K H a (ns.map V.int)->sp [.ref a] H (fun v _=>v= .bl true) fun _ _ _=>False)(hCX:∀H e s',CX [] H s₁ (fun _ _ _=>False) e s'->False):
 codeAny (model P w) callerA (.call (.ref fa) ⟨[.ref a],[]⟩) (fun r s'=>r= .ok (.ret (.bool true))/\OldK s₁.heap s'.heap/\s'.os=s₁.os/\AllBare s'.gens) s₁:=by
 have rv:=iE hi;have ai:=hi.length
 have j:∀H:Hp,Only H->SqL K H a (ns.map V.int)->HOk P w H s₁.heap->(∀b,H b≠none->b=a)->(H a≠none->K.lookup a=none)->
  codeAny (model P w) callerA (.call (.ref fa) ⟨[.ref a],[]⟩) (fun r s'=>r= .ok (.ret (.bool true))/\OldK s₁.heap s'.heap/\s'.os=s₁.os/\AllBare s'.gens) s₁:=by
  intro H₁ hO a1 p au hK
  have aT:a≠T0:=fun z=>by
   rw[<-z,ha]at hT0;cases hT0
  have aB:H₁ T0=none:=by
   cases q:H₁ T0 with
   |none=>rfl
   |some u=>exact absurd (au T0 (by rw[q];simp)).symm aT
  obtain⟨H,eH⟩:∃H,H=upd H₁ T0 (.tbl #[]):=⟨_,rfl⟩;have t:H T0=some (.tbl #[]):=by rw[eH];exact a8
  have i:∀b,b≠T0->H b=H₁ b:=fun b n=>by rw[eH];exact ae n
  have hA:∀b,H b≠none->b=a\/b=T0:=fun b n=>by
   by_cases z:b=T0
   . exact .inr z
   . exact .inl (au b (by rw[<-i b z];exact n))
  have hS:SqL K H a (ns.map V.int):=by
   rcases a1 with(h|⟨o,h⟩)|h
   . exact .inl (.inl ((i a aT).trans h))
   . exact .inl (.inr ⟨o,(i a aT).trans h⟩)
   . exact .inr h
  have hok:HOk P w H s₁.heap:=fun b u e=>by
   by_cases hb:b=T0
   . subst hb;rw[t]at e;cases e;exact hT0
   . rw[i b hb]at e;exact(p b u e).stay (fun c v _ q=>q) (fun c q=>by rw[i c (fun z=>by rw[z,aB]at q;cases q)];exact q) fun c xs q=>by rw[i c (fun z=>by rw[z,aB]at q;cases q)];exact q
  have f:∀ {b:Addr} {o:Obj},s₁.heap.get? b=some o->H b=none->(hidT s₁.heap H).get? b=some o:=fun e n=>sW e n
  have a0:∀ {b:Addr} {o:Obj} {es:Array DictEntry} {ep:Nat},s₁.heap.get? b=some o->o.data= .dict es ep->H b=none:=fun{b o es ep} e d=>by
   cases q:H b with
   |none=>rfl
   |some u=>
    rcases hA b (by rw[q];simp)with e'|e'
    . subst e';rw[ha]at e;cases e;have d':Data.seq vs.toArray _=Data.dict es ep:=d;cases d'
    . subst e';rw[hT0]at e;cases e;cases d
  have g:∀ {b:Addr} {m:Str->Option Value},s₁.heap.Ns b m->(hidT s₁.heap H).Ns b m:=fun{b m} ⟨o,es,ep,e,d,r⟩=>J2 o es ep (f e (a0 e d)) d r
  have aC:K.In (hidT s₁.heap H):=fun b o e=>f (KX b o e) (by
   cases q:H b with
   |none=>rfl
   |some u=>
    rcases hA b (by rw[q];simp)with e'|e'
    . subst e';rw[hK (by rw[<-i b aT,q];simp)]at e;cases e
    . subst e'
      rw[kT0]at e;cases e)
  have hM:Mod K mg (hidT s₁.heap H):=⟨aC,g hns,(Y3 mb (g hb) hbb),let ⟨mc,h1,h2⟩:=hlim;(Y3 mc (g h1) h2)⟩
  have ao:(hidT s₁.heap H).BuiltinsAt mg T0:=by
   refine hZq fun q_ e_=>?_;obtain⟨bm,ob,b1,b2,b3,b4,b5,b6,b7,b8⟩:=hbm;subst e_;refine Y4 bm ob ⟨b1,b2,b3,b4,f b5 ?_,b6,b7,b8⟩
   cases q:H bm with
   |none=>rfl
   |some u=>
    rcases hA bm (by rw[q];simp)with e'|e'
    . subst e';rw[ha]at b5;cases b5;cases b8
    . exact absurd e' b4
  have e0:Env0 P w K mg (hidT s₁.heap H) callerA [] s₁ H:=⟨rfl,hM,fun b o e=>⟨(nU e).1, .inl (nU e).2⟩,Nat.le_of_eq (pi _ _),trivial,fun b hb=>absurd (show b∈([]:List Addr)from hb) (by simp),hok, .of_eq hg⟩
  refine codeAny_mono ((F _ aC (g hns) ao).run callerA [] s₁ H ⟨[.ref a],[]⟩ [.ref a] [.ref a] _ _ hr e0 (hbind s₁ (.ref a)) (.cons rfl .nil) (hsp H t hS)) fun r s' h=>?_
  cases r with
  |error e=>exact(hCX H e s' h).elim
  |ok fl=>
   cases fl with
   |next=>exact False.elim h
   |brk=>exact False.elim h
   |cont=>exact False.elim h
   |ret u=>
    refine hZq fun q_ e_=>?_;obtain⟨v,H',os,bare,un,l,r',q⟩:=h;subst e_;have q':v= .bl true:=q;subst q';obtain rfl:u=Value.bool true:=r';have aA:=((PySem.W.codeHd_of_K KX cT0).tab hT0).isCodeTable;obtain⟨more,hm⟩:=un.tbls T0 _ t;have y:=l T0 _ hm
    suffices old:∀b o,b≠T0->s₁.heap.get? b=some o->s'.heap.get? b=some o by
     refine⟨rfl,⟨fun b o e=>?_,fun b o e=>?_⟩,os,bare⟩
     . by_cases hb:b=T0
       . subst hb;rw[hT0]at e;cases e;exact .inr (.inl ⟨aA,rfl,U3 (#[]) more rfl y⟩)
       . exact .inl (old b o hb e)
     . by_cases hb:b=T0
       . subst hb;exact⟨_,y⟩
       . exact⟨o,old b o hb e⟩
    intro b o hb e
    cases q:H b with
    |none=>exact un.keep b o e (.inl q) (by intro z;exact absurd (show b∈([]:List Addr)from z) (by simp)) (by simp)
    |some u=>
     rw[i b hb]at q;rcases hO b with z|⟨ob,xs,z⟩
     . rw[q]at z;cases z
     . have z2:=un.frzs b ob _ ((i b hb).trans z);obtain⟨e1,_⟩:=p b _ z;obtain⟨e2,_⟩:=l b _ z2;rw[e]at e1;cases e1;exact e2
 cases hk:K.lookup a with
 |some o=>
  have e:=KX a o hk;rw[ha]at e;cases e;refine j (fun _=>none) (fun _=> .inl rfl) (.inr (U4 _ vs.toArray _ hk rfl rfl rfl ⟨by rw[yX,ai];exact hl,by simpa using rv⟩)) (fun b u z=>by have z':(none:Option HO)=some u:=z;cases z') (fun b z=>absurd rfl z) fun z=>absurd rfl z
 |none=>
  refine j (fun b=>if b=a then some (.frz {cls:= .type "list",data:= .seq vs.toArray} (.lst (ns.map V.int)))else none) (fun b=>?_) (.inl (.inr ⟨{cls:= .type "list",data:= .seq vs.toArray},if_pos rfl⟩)) (fun b u z=>?_) (fun b z=>?_) fun _=>hk
  . by_cases hb:b=a
    . exact .inr (Y4 _ _ (if_pos hb))
    . exact .inl (if_neg hb)
  . by_cases hb:b=a
    . have z':=(if_pos hb).symm.trans z;cases z';subst hb;exact⟨ha,by rw[yR];exact hl,U3 vs _ rv ha⟩
    . have z':=(if_neg hb).symm.trans z;cases z'
  . by_cases hb:b=a
    . exact hb
    . exact absurd (if_neg hb) z
variable{wr:List Addr}{P:Nat->Value->Prop}{q S:Addr}{G:Heap->Prop}{s₀:Shared}
theorem walk_ofT{l:PySem.W.OpenLaw}{k:Nat}{q:Program}{loose:List Str}{d:DefRec}{K:Params->PySem.W.Frag}{CX:World->CXT}{sp:World->Addr->Sp}(hn:l.most=some n)(hn2:n<=sizeLine)(hdf:d.params.defaults= [])(hr:Room k callerA)(hY:∀(w:World) (h:Heap),YP w h->(K w.params).In h)(hYT:∀(w:World) (h:Heap),YP w h->h.get? T0=some (PySem.W.tabObj #[]))(F:∀(w:World) (mg:Str->Option Value) (fa:Addr) (h:Heap),(K w.params).In h->h.Ns mainGlobals mg->mg d.name=some (.ref fa)->
  ∃(c0:Addr),(K w.params).lookup T0=none/\PySem.W.codeHdIn (K w.params) c0 T0=true/\∃fd:FuncData,(∀(s:Shared) (u:Value),BindsTo s fd ⟨[u],[]⟩ [(x,u)])/\
   ∀base:Heap,(K w.params).In base->base.Ns mainGlobals mg->base.BuiltinsAt mg T0->FnOk l.prog w (K w.params) mg base (CX w) k fa fd [x] (sp w T0))(hsp:∀(w:World) (H:Hp) (a:Addr) (ns:List Int),ns.length<=n->H T0=some (.tbl #[])->SqL (K w.params) H a (ns.map V.int)->sp w T0 [.ref a] H (fun v _=>v= .bl true) fun _ _ _=>False)(hCX:∀(w:World) (H:Hp) (s:Shared) (e:Value) (s':Shared),CX w [] H s (fun _ _ _=>False) e s'->False):
 PySem.W.WalkO q loose XP YP l.row.toRowW d [] (fun f vs=>PySem.call f vs):=by
 refine Att.attach_call hn hdf fun w s₀ s₁ mg mb fa o pm cd ao a vs ns G Y ho hd au t j i c hg=>?_;have KX:=hY w _ Y;obtain⟨c0,z,ai,fd,hb,hF⟩:=F w mg fa _ KX G.T.g t;have m:=hYT w _ Y;obtain⟨bm,ob,b1,b2,b3,b4,b5,y⟩:=G.T.bmain
 have r:bm≠T0:=fun q=>by
  rw[q,m]at b3;cases b3;cases b4
 have p:bm≠mainGlobals:=fun q=>by
  obtain⟨o,es,ep,e,hd,_⟩:=G.T.g;rw[q,e]at b3;cases b3;rw[hd]at y;cases y
 exact p9 KX G.T.g G.T.b G.T.builtins G.T.nolimit hg j i (z7 c hn2) hr m z ai (Y4 bm ob ⟨b1,b2,p,r,b3,b4,b5,y⟩) hF hb (fun H hO hS=>hsp w H a ns c hO hS) fun H e s'=>hCX w H s₁ e s'
theorem pK(a u v:Value):argsOk "min" ⟨[a],[(Str.ofString "key",u),(Str.ofString "default",v)]⟩:=by unfold argsOk;kernel_rfl
theorem de:(toString "min"++toString ".loop":String)= "min.loop":=by decide
def Kp(wr:List Addr)(S:Addr)(h h':Heap):Prop:=∀b o,b∉wr->b≠S->h.get? b=some o->h'.get? b=some o
theorem Kp.trans{a b c:Heap}(x:Kp wr S a b)(y:Kp wr S b c):Kp wr S a c:=fun d o h1 h2 e=>y d o h1 h2 (x d o h1 h2 e)
theorem p5{St:Nat->Heap->Prop}{kw:List (Str×Value)}(W:Walks prog w A.in1 it fp wr n P St)(nS:S∉fp)(hG:∀h h',G h->Kp wr S h h'->G h')(turn:∀i v h tk,i < n->P i v->G h->wpAny (model prog w) A.in1 (call (.ref q) [v]) (fun x s''=>∃t h' tk',x=Value.int (kf i) t/\s''= {s₀ with heap:=h',toks:=tk'}/\∀b o,h.get? b=some o->h'.get? b=some o) (fun _ _=>False) {s₀ with heap:=h,toks:=tk}):
 ∀(k j i:Nat) (h:Heap) (tk:Nat) (vb:Value) (tb:Tok) (c:Nat),j+k=n->St j h->G h->
 h.get? S=some ({cls:= .type "list",data:= .seq #[vb,Value.int (kf i) tb] c}:Obj)->P i vb->i < n->(∀j',j' < j->kf i<=kf j')->
 (∀(i:Nat) (v:Value) (h':Heap) (tk:Nat),i < n->P i v->(∀j,j < n->kf i<=kf j)->Kp wr S h h'->R (.ok (.ret v)) {s₀ with heap:=h',toks:=tk})->
 codeAny (model prog w) A (.builtin "min.loop" ⟨[.ref it, .ref q, .ref S],kw⟩) R {s₀ with heap:=h,toks:=tk}:=by
 have nw:S∉wr:=fun z=>nS (W.sub _ z);intro k
 induction k with
 |zero=>
  intro j i h tk vb tb c e st hg r pb hi hb hR;have e':j=n:=by omega
  subst e';refine codeAny_builtin PySem.F.entry_min_loop ?_;rw[Around.under_plainId PySem.F.plain_min_loop _];show wpAny _ A.in1 (seqItems? (.ref S) >>=fun _=>_) _ _ _;refine wpAny_bind (wpAny_seqItems r rfl ?_);show wpAny _ A.in1 (tryCatch (pyNext (.ref it)) _ >>=fun _=>_) _ _ _;refine wpAny_bind (wpAny_tryCatch (W.done _ _ _ st fun h1 p k1=>?_));have d:=k1 S _ nw r;show wpAny _ A.in1 (updateSeq S (fun _=> #[]) >>=fun _=>_) _ _ _;refine wpAny_bind (wpAny_updateSeq d rfl (wpAny_bind (wpAny_letGo (wpAny_pure ?_))));exact hR i vb _ p hi pb hb fun b o nb a f=>(Heap.get?_update_other _ _ (Ne.symm a)).trans (k1 b o nb f)
 |succ k ih=>
  intro j i h tk vb tb c e st hg r pb hi hb hR;refine codeAny_builtin PySem.F.entry_min_loop ?_;rw[Around.under_plainId PySem.F.plain_min_loop _];show wpAny _ A.in1 (seqItems? (.ref S) >>=fun _=>_) _ _ _;refine wpAny_bind (wpAny_seqItems r rfl ?_);show wpAny _ A.in1 (tryCatch (pyNext (.ref it)) _ >>=fun _=>_) _ _ _;refine wpAny_bind (wpAny_tryCatch (W.item j _ _ _ (by omega) st fun v h1 p pv ao k1=>?_))
  have d:=k1 S _ nw r;have u:Kp wr S h h1:=fun b o nb _ f=>k1 b o nb f;show wpAny _ A.in1 (tryCatch (holding [v] (call (.ref q) [v])) _ >>=_) _ _ _;refine wpAny_bind (wpAny_tryCatch (wpAny_holding (wpAny_mono (turn j v h1 p (by omega) pv (hG _ _ hg u)) (fun x s'' he=>?_) fun _ _ hF=>hF.elim)))
  obtain⟨t2,h2,au,rfl,rfl,k2⟩:=he;have l:Kp wr S h h2:=fun b o nb nS f=>k2 b o (u b o nb nS f);have ai:St (j+1) h2:=W.frame _ _ _ ao fun b hb o eo=>k2 b o eo;have m:=k2 _ _ d;show wpAny _ A.in1 (tryCatch (holding [v, .int (kf j) t2] (richCompare .Lt (.int (kf j) t2) (.int (kf i) tb) >>=_)) _ >>=_) _ _ _;refine wpAny_bind (wpAny_tryCatch (wpAny_holding (wpAny_bind (CmpOf.ints_lt (prog:=prog) (w:=w) (A:=A.in1) (P:=fun i v=>∃t,v= .int (kf i) t) kf (fun i v h=>h) j i _ _ _ _ _ ⟨t2,rfl⟩ ⟨tb,rfl⟩ ?_))));refine wpAny_bind (wpAny_holding (wpAny_truthy_bool ?_));refine wpAny_bind (wpAny_letGo (wpAny_pure ?_));by_cases y:kf j < kf i
  . simp only[y,decide_true,if_true];refine wpAny_bind (wpAny_updateSeq m rfl (wpAny_bind (wpAny_letGo ?_)));rw[de];have s:Kp wr S h (h2.update S (Obj.mapSeq fun _=> #[v, .int (kf j) t2])):=fun b o nb a f=>(Heap.get?_update_other _ _ (Ne.symm a)).trans (l b o nb a f);refine wpAny_pure ⟨plainId_quiet PySem.F.plain_min_loop _,ih (j+1) j _ _ v t2 _ (by omega) (W.frame _ _ _ ai fun b hb o eo=>(Heap.get?_update_other _ _ (fun z:S=b=>nS (by rw[z];exact hb))).trans eo) (hG _ _ hg s) (Heap.get?_update_self _ m rfl) pv (by omega) (fun j' hj=>?_) fun i' v' h3 g a1 a2 a3 a4=>hR i' v' h3 g a1 a2 a3 (s.trans a4)⟩
    by_cases z:j'=j
    . rw[z];exact Al _
    . have:=hb j' (by omega);omega
  . simp only[y,decide_false,Ak,if_false];refine wpAny_bind (wpAny_letGo ?_);rw[de];refine wpAny_pure ⟨plainId_quiet PySem.F.plain_min_loop _,ih (j+1) i _ _ vb tb c (by omega) ai (hG _ _ hg l) m pb hi (fun j' hj=>?_) fun i' v' h3 g a1 a2 a3 a4=>hR i' v' h3 g a1 a2 a3 (l.trans a4)⟩
    by_cases z:j'=j
    . rw[z];omega
    . exact hb j' (by omega)
theorem lV{St:Nat->Heap->Prop}(W:Walks prog w A.in1 it fp wr n P St)(nS:S∉fp)(hG:∀h h',G h->Kp wr S h h'->G h')(turn:∀i v h tk,i < n->P i v->G h->wpAny (model prog w) A.in1 (call (.ref q) [v]) (fun x s''=>∃t h' tk',x=Value.int (kf i) t/\s''= {s₀ with heap:=h',toks:=tk'}/\∀b o,h.get? b=some o->h'.get? b=some o) (fun _ _=>False) {s₀ with heap:=h,toks:=tk})(d:Value){tk:Nat}{c:Nat}(st:St 0 h)(hg:G h)(gS:h.get? S=some ({cls:= .type "list",data:= .seq #[] c}:Obj))(h0:n=0->∀(h':Heap) (tk:Nat),Kp wr S h h'->R (.ok (.ret d)) {s₀ with heap:=h',toks:=tk})(hR:∀(i:Nat) (v:Value) (h':Heap) (tk:Nat),i < n->P i v->(∀j,j < n->kf i<=kf j)->Kp wr S h h'->R (.ok (.ret v)) {s₀ with heap:=h',toks:=tk}):
 codeAny (model prog w) A (.builtin "min.loop" ⟨[.ref it, .ref q, .ref S],[(Str.ofString "default",d)]⟩) R {s₀ with heap:=h,toks:=tk}:=by
 have nw:S∉wr:=fun z=>nS (W.sub _ z);refine codeAny_builtin PySem.F.entry_min_loop ?_;rw[Around.under_plainId PySem.F.plain_min_loop _];show wpAny _ A.in1 (seqItems? (.ref S) >>=fun _=>_) _ _ _;refine wpAny_bind (wpAny_seqItems gS rfl ?_);show wpAny _ A.in1 (tryCatch (pyNext (.ref it)) _ >>=fun _=>_) _ _ _;by_cases z:n=0
 . refine wpAny_bind (wpAny_tryCatch (W.done _ _ _ (by rw[z];exact st) fun h1 e k1=>?_))
   refine wpAny_bind (wpAny_rule (wpAny_pure ?_));exact h0 z _ e fun b o nb _ a=>k1 b o nb a
 . refine wpAny_bind (wpAny_tryCatch (W.item 0 _ _ _ (by omega) st fun v h1 e pv r k1=>?_))
   have m:=k1 S _ nw gS;have g:Kp wr S h h1:=fun b o nb _ a=>k1 b o nb a;show wpAny _ A.in1 (tryCatch (holding [v] (call (.ref q) [v])) _ >>=_) _ _ _;refine wpAny_bind (wpAny_tryCatch (wpAny_holding (wpAny_mono (turn 0 v h1 e (by omega) pv (hG _ _ hg g)) (fun x s'' he=>?_) fun _ _ hF=>hF.elim)))
   obtain⟨t2,h2,ai,rfl,rfl,k2⟩:=he;have y:Kp wr S h h2:=fun b o nb nS a=>k2 b o (g b o nb nS a);have u:St 1 h2:=W.frame _ _ _ r fun b hb o s=>k2 b o s;have l:=k2 _ _ m;show wpAny _ A.in1 (updateSeq S (fun _=> #[v, .int (kf 0) t2]) >>=_) _ _ _;refine wpAny_bind (wpAny_updateSeq l rfl ?_);rw[de];have f:Kp wr S h (h2.update S (Obj.mapSeq fun _=> #[v, .int (kf 0) t2])):=fun b o nb k a=>(Heap.get?_update_other _ _ (Ne.symm k)).trans (y b o nb k a);refine wpAny_pure ⟨plainId_quiet PySem.F.plain_min_loop _,p5 W nS hG turn (n - 1) 1 0 _ _ v t2 _ (by omega) (W.frame _ _ _ u fun b hb o s=>(Heap.get?_update_other _ _ (fun z:S=b=>nS (by rw[z];exact hb))).trans s) (hG _ _ hg f) (Heap.get?_update_self _ l rfl) pv (by omega) (fun j' hj=>?_) fun i' v' h3 p a1 a2 a3 a4=>hR i' v' h3 p a1 a2 a3 (f.trans a4)⟩
   rw[show j'=0 by omega]
   exact Al _
noncomputable def CdX(c:Addr)(q:Str):HO:= .ext fun h=>h.CodeRec (.ref c) q
variable{p0 p1 p3:Pos}{q:Str}
theorem xO{P:Program}{c:Addr}(x:h.CodeRec (.ref c) q):ObjOk P w H h c (CdX c q):=by
 refine⟨x,?_,fun h1 h2 y k=>?_⟩
 . obtain⟨c',o,vs,t,e,ho,_⟩:=x;cases e;exact⟨o,ho⟩
 . obtain⟨c',o,vs,t,e,ho,z⟩:=y;cases e;exact⟨c,o,vs,t,rfl,k o ho,z⟩
def Lam(T0:Addr)(pos:Pos)(q:Str)(H:Hp):Prop:=H T0=some (.tbl #[])\/∃c,H T0=some (.tbl #[rawInt pos.line,rawInt pos.col, .ref c])/\H c=some (CdX c q)
theorem Lam.tb{pos:Pos}(h:Lam T0 pos q H):∃ps,H T0=some (.tbl ps):=by
 rcases h with h|⟨c,h,_⟩
 . exact⟨_,h⟩
 . exact⟨_,h⟩
def ButT(T0:Addr)(H H':Hp):Prop:=∀b o,b≠T0->H b=some o->H' b=some o
theorem Inv.pinF{o:Obj}(I:Inv X pins σ H s)(hf:s.heap.get? f=some o)(hn:H f=none)(hL:f≠X.env.locals)(hs:f∉X.fs)(hd:∀v,o.data≠ .cell v):Inv X ((f,o)::pins) σ H s:=by
 refine{I with pin:=fun p hp=>?_};rcases zw.mp hp with hp|hp
 . exact I.pin p (Af _ hp)
 . rcases yY.mp hp with rfl|hp
   . exact⟨hf,hn,hL,hs,hd⟩
   . exact I.pin p (zy _ hp)
theorem Inv.unpin{p:Addr×Obj}(I:Inv X (p::pins) σ H s):Inv X pins σ H s:=by
 refine{I with pin:=fun p hp=>?_};rcases zw.mp hp with hp|hp
 . exact I.pin p (Af _ hp)
 . exact I.pin p (zy _ (yU _ hp))
theorem sL{params:Arguments}{body:Expr}{pos:Pos}{clos:List (Str×Addr)}(I:Inv X pins σ H s)(hcode:X.env.code= .ref c0)(C:PySem.W.codeHdIn X.K c0 T0=true)(hB:X.base.BuiltinsAt X.mg T0)(hdef:defaultsOf params X.env=([],[]))(hcl:closureFor scope X.env=pure clos)(hL:Lam T0 pos (X.env.qual++"<lambda>") H)(h:∀f c' ctv H' s',Inv X ((f,PySem.W.kla_obj "<lambda>" (X.env.qual++"<lambda>") params body scope clos ((X.mg "__name__").getD .none) c' ctv)::pins) σ H' s'->ButT T0 H H'->Lam T0 pos (X.env.qual++"<lambda>") H'->s'.heap.CodeRec (.ref c') (X.env.qual++"<lambda>")->Q (.ref f) s'):
 wpAny (model X.prog X.w) X.A (eval (.Lambda params body scope pos) X.env) Q E s:=by
 refine PySem.W.kla_eval hdef ?_;have hg:s.heap.Ns mainGlobals X.mg:=I.mod.glob.keeps I.bk;have Ch:PySem.W.CodeHd s.heap c0 T0:=PySem.W.codeHd_of_K I.kIn C
 have hb:s.heap.BuiltinsAt X.mg T0:=by
  refine hZq fun q_ e_=>?_;obtain⟨bm,ob,b1,b2,b3,b4,b5,b6⟩:=hB;subst e_;exact Y4 bm ob ⟨b1,b2,b3,b4,I.bk _ _ b5,b6⟩
 refine hZq fun q_ e_=>?_;obtain⟨m,⟨oL,_,_,a0,_⟩,_⟩:=id I.loc;subst e_;have lL:=Heap.lt_size a0
 have aT:∀b∈X.fs,b < s.heap.objs.size:=fun b aA=>by
  refine hZq fun q_ e_=>?_;obtain⟨o,ho,_⟩:=(I.ok.funs.mem aA).2;obtain⟨o',a2⟩:=I.base.there b o ho (fun z=>I.ok.exfs b z aA);subst e_;exact Heap.lt_size a2
 rcases hL with hL|⟨c,hL,hc⟩
 . have hP:s.heap.get? T0=some (PySem.W.tabObj #[]):=I.hok T0 _ hL
   have a3:mainGlobals≠T0:=fun e=>by
    refine hZq fun q_ e_=>?_;obtain⟨o,es,ep,e1,hd,_⟩:=hg;subst e_;rw[e,hP]at e1;cases e1;cases hd
   refine PySem.W.kla_makeFunction (mg:=X.mg) hcl I.ok.glob hg hcode Ch hP trivial rfl a3 hb fun c' ctv h' tk hx aC aB d a1=>?_;have ai:H c'=none:=I.hok.fresh aC;have cT:c'≠T0:=fun e=>by rw[e,hL]at ai;cases ai
   have p:∀b o,b≠T0->s.heap.get? b=some o->(h'.push (PySem.W.kla_obj "<lambda>" (X.env.qual++"<lambda>") params body scope clos ((X.mg "__name__").getD .none) c' ctv)).get? b=some o:=fun b o n e=>Heap.get?_push_of_some _ (hx b o n e);have l:=Heap.get?_push_of_some (PySem.W.kla_obj "<lambda>" (X.env.qual++"<lambda>") params body scope clos ((X.mg "__name__").getD .none) c' ctv) a1
   have g:(h'.push (PySem.W.kla_obj "<lambda>" (X.env.qual++"<lambda>") params body scope clos ((X.mg "__name__").getD .none) c' ctv)).CodeRec (.ref c') (X.env.qual++"<lambda>"):=by
    refine hZq fun q_ e_=>?_;obtain⟨c2,o,vs,t,e,ho,z⟩:=d;subst e_;exact⟨c2,J2 o vs t e (Heap.get?_push_of_some _ ho) z⟩
   have hf:=Heap.get?_push_size h' (o:=PySem.W.kla_obj "<lambda>" (X.env.qual++"<lambda>") params body scope clos ((X.mg "__name__").getD .none) c' ctv) rfl;generalize a4:h'.push (PySem.W.kla_obj "<lambda>" (X.env.qual++"<lambda>") params body scope clos ((X.mg "__name__").getD .none) c' ctv)=h2 at*
   have tb:∀b o,H b=some o->(∀ps,o≠ .tbl ps)->b≠T0:=fun b o e n z=>by
    rw[z,hL]at e;exact n _ (z9 e).symm
   have k:∀b,b≠T0->b≠c'->(upd (upd H T0 (.tbl #[rawInt pos.line,rawInt pos.col, .ref c'])) c' (CdX c' (X.env.qual++"<lambda>"))) b=H b:=fun b n1 n2=>by rw[ae n2,ae n1]
   have nc:∀b o,s.heap.get? b=some o->b≠c':=fun b o e z=>by
    have:=Heap.lt_size e;rw[z]at this;exact absurd this (Nat.not_lt.mpr aC)
   have a:∀b o,H b=some o->b≠c':=fun b o e z=>by rw[z,ai]at e;cases e
   have x:(upd (upd H T0 (.tbl #[rawInt pos.line,rawInt pos.col, .ref c'])) c' (CdX c' (X.env.qual++"<lambda>"))) T0=some (.tbl #[rawInt pos.line,rawInt pos.col, .ref c']):=by rw[ae (Ne.symm cT),a8]
   have au:HOk X.prog X.w (upd (upd H T0 (.tbl #[rawInt pos.line,rawInt pos.col, .ref c'])) c' (CdX c' (X.env.qual++"<lambda>"))) h2:=fun b u e=>by
    by_cases b1:b=c'
    . subst b1;rw[a8]at e;cases e;exact xO g
    . by_cases b2:b=T0
      . subst b2;rw[x]at e;cases e;show h2.get? _=some _;rw[l];rfl
      . rw[k b b2 b1]at e;refine(I.hok b u e).stay (fun c v z q=>p c v ?_ q) (fun c q=>?_) fun c xs q=>?_
        . rcases z with rfl|z
          . exact b2
          . exact tb _ _ z (by intro ps y;cases y)
        . rw[k c (tb _ _ q (by intro ps y;cases y)) (a _ _ q)]
          exact q
        . rw[k c (tb _ _ q (by intro ps y;cases y)) (a _ _ q)]
          exact q
   have ao:∀b,Idl (H b)->b≠T0:=fun b i z=>by
    rw[z,hL]at i;rcases i with i|⟨xs,i⟩<;>cases i
   have I2:=I.step (h':=h2) (H':=upd (upd H T0 (.tbl #[rawInt pos.line,rawInt pos.col, .ref c'])) c' (CdX c' (X.env.qual++"<lambda>"))) (g':=s.gens) (d':=s.drawn) (t':=tk) (ch:= []) (fun _ z=>nomatch z) (fun b o _ _ _ e n=>p b o (ao b n) e)
    (fun b o _ _ _ e n=>⟨o.slots,p b o (ao b (.inl n)) e⟩) (fun b o _ e n=>by rw[k b (ao b (.inl n)) (nc b o e)];exact n)
    (fun b o _ e=>by
     by_cases z:b=T0
     . exact⟨_,z▸l⟩
     . exact⟨o,p b o z e⟩)
    (fun b xs e=>by rw[k b (tb _ _ e (by intro ps y;cases y)) (a _ _ e)];exact e) (fun b o u e=>by rw[k b (tb _ _ e (by intro ps y;cases y)) (a _ _ e)];exact e)
    (fun b ps e=>by
     by_cases z:b=T0
     . subst z;rw[hL]at e;cases e;exact⟨#[rawInt pos.line,rawInt pos.col, .ref c'],by rw[x];rfl⟩
     . exact⟨#[],by rw[k b z (a _ _ e),e];simp⟩)
    (fun m' ⟨o,es,ep,e,r⟩=>⟨o,U3 es ep (p _ o (fun z=>by have:=I.free;rw[z,hL]at this;cases this) e) r⟩) au I.bare
   have j:s.heap.objs.size<=h'.objs.size:=by omega
   refine h h'.objs.size c' ctv _ _ (I2.pinF hf ?_ ?_ ?_ (by intro v z;cases z)) (fun b o n e=>by rw[k b n (a _ _ e)];exact e) (.inr (Y3 c' x a8)) g
   . rw[k _ (fun z=>by have:=Heap.lt_size hP;rw[<-z]at this;exact absurd this (Nat.not_lt.mpr j)) (fun z=>by rw[<-z]at aB;exact absurd aB (zN _))]
     exact I.hok.fresh j
   . exact fun z=>by rw[<-z]at lL;exact absurd lL (Nat.not_lt.mpr j)
   . exact fun z=>absurd (aT _ z) (Nat.not_lt.mpr j)
 . have hP:s.heap.get? T0=some (PySem.W.tabObj #[rawInt pos.line,rawInt pos.col, .ref c]):=I.hok T0 _ hL;have d:s.heap.CodeRec (.ref c) (X.env.qual++"<lambda>"):=(I.hok c _ hc).1;refine PySem.W.kla_makeFunctionHit (mg:=X.mg) (cv:= .ref c) hcl I.ok.glob hg hcode Ch hP trivial (by simp[codeAmong,rawInt]) hb fun ctv h' tk hk hsz=>?_
   have p:∀b o,s.heap.get? b=some o->(h'.push (PySem.W.kla_obj "<lambda>" (X.env.qual++"<lambda>") params body scope clos ((X.mg "__name__").getD .none) c ctv)).get? b=some o:=fun b o e=>Heap.get?_push_of_some _ (hk b o e);have hf:=Heap.get?_push_size h' (o:=PySem.W.kla_obj "<lambda>" (X.env.qual++"<lambda>") params body scope clos ((X.mg "__name__").getD .none) c ctv) rfl;refine h h'.objs.size c ctv H _ ((I.kept (t':=tk) p).pinF hf (I.hok.fresh hsz) ?_ ?_ (by intro v z;cases z)) (fun b o _ e=>e) (.inr (Y3 c hL hc)) ?_
   . exact fun z=>by rw[<-z]at lL;exact absurd lL (Nat.not_lt.mpr hsz)
   . exact fun z=>absurd (aT _ z) (Nat.not_lt.mpr hsz)
   . refine hZq fun q_ e_=>?_;obtain⟨c2,o,vs,t,e,ho,z⟩:=d;subst e_;exact⟨c2,J2 o vs t e (p _ _ ho) z⟩
noncomputable abbrev lmSc:Scope:= {kind:= .function,names:= [(Str.ofString "place", .local),(Str.ofString "numbers", .free)],isGenerator:=false,isCoroutine:=false,more:= []}
abbrev lmAr(p:Pos):Arguments:= {posonlyargs:= [],args:= [{arg:="place",annotation:=none,pos:=p}],vararg:=none,kwonlyargs:= [],kw_defaults:= [],kwarg:=none,defaults:= []}
abbrev lmBd(p1 p2 p3:Pos):Expr:= .Subscript (.Name "numbers" p1) (.Name "place" p2) p3
theorem uI{c:Addr}(h:env.cells.lookup (Str.ofString "numbers")=some c):closureFor lmSc env=pure [(Str.ofString "numbers",c)]:=by
 have e:cellOf env (Str.ofString "numbers")=pure c:=by unfold cellOf;rw[h]
 unfold closureFor;simp only[List.forIn_cons,List.forIn_nil,pure_bind,bind_pure_comp];simp[e]
theorem sM{c c':Addr}{ctv:Value}{its:Array Value}{i k:Int}{t u:Tok}(hroom:A.depth < recursionLimit)(ho:s.heap.get? f=some (PySem.W.kla_obj "<lambda>" q (lmAr p0) (lmBd p1 p2 p3) lmSc [(Str.ofString "numbers",c)] pm c' ctv))(hrec:s.heap.CodeRec (.ref c') q)(hlim:s.heap.NoLimit)(hcell:s.heap.IsCell c (some (.ref a)))(hl:s.heap.IsList a its)(h0:0<=i)(hfit:i < 2^63)(hx:its[i.toNat]?=some (.int k u)):
 wpAny (model prog w) A (call (.ref f) [.int i t]) (fun x s''=>∃t h' tk',x=Value.int k t/\s''= {s with heap:=h',toks:=tk'}/\∀b o,s.heap.get? b=some o->h'.get? b=some o) (fun _ _=>False) s:=by
 refine wpAny_call (PySem.W.kla_callFunE hroom ho rfl rfl rfl rfl hrec ?_);rw[show bindArgs (PySem.W.kla_fn "<lambda>" q (lmAr p0) (lmBd p1 p2 p3) lmSc [(Str.ofString "numbers",c)] pm (.ref c') ctv) ⟨[.int i t],[]⟩=pure [(Str.ofString "place", .int i t)]from rfl]
 refine wpAny_pure (wpAny_newFunctionEnv (scope:=lmSc) (by decide +kernel) (by
  intro x m;rw[zq.mp m];show List.lookup (Str.ofString "place") lmSc.names=_
  decide +kernel) (fun j l g=>⟨hlim.fresh _ g,PySem.W.kla_codeExpr ?_⟩) rfl)
 have d:∀b o,s.heap.get? b=some o->j.get? b=some o:=fun b o e=>g.extBut b o (zo (Heap.lt_size e)) (Heap.get?_push_of_some _ e);refine Subscript_ (wpAny_Name (wpAny_loadName_free rfl (show List.lookup (Str.ofString "numbers") lmSc.names=some .free by decide +kernel) (c:=c) (v:= .ref a) ?_ (hcell.keeps d) ?_ (by decide +kernel)) (by decide +kernel))
 . show List.lookup (Str.ofString "numbers") [(Str.ofString "numbers",c)]=some c;simp
 refine wpAny_Name (wpAny_loadName_local rfl (show List.lookup (Str.ofString "place") lmSc.names=some .local by decide +kernel) l (v:= .int i t) ?_ ?_) (by decide +kernel)
 . show List.lookup (Str.ofString "place") [(Str.ofString "place",Value.int i t)]=_;simp
 obtain⟨n,h,hr⟩:=hl;refine item_listR (s:= {s with heap:=j,toks:=_}) (items:=its) (Y3 n (d _ _ h) hr) h0 hfit hx ?_;exact J2 u j _ rfl rfl d
theorem SqL.butT(hT:H T0=some (.tbl ps))(b:ButT T0 H H')(h:SqL K H a xs):SqL K H' a xs:=by
 rcases h with(h|⟨o,h⟩)|h
 . exact .inl (.inl (b _ _ (fun z=>by rw[z,hT]at h;cases h) h))
 . exact .inl (.inr ⟨o,b _ _ (fun z=>by rw[z,hT]at h;cases h) h⟩)
 . exact .inr h
def nv(ps:List Nat):List V:=ps.map fun(p:Nat)=>V.int (p:Int)
def vS(K:PySem.W.Frag)(T0:Addr)(pos:Pos)(q:Str):TE:=fun σ H Q=>∃(a b:Addr) (ns:List Int) (ps:List Nat),σ[0]?=some (some (.ref a))/\σ[1]?=some (some (.ref b))/\SqL K H a (ns.map V.int)/\SqL K H b (nv ps)/\(∀p∈ps,p < ns.length)/\Lam T0 pos q H/\
 (ps= []->∀H',ButT T0 H H'->Lam T0 pos q H'->Q .non H')/\∀p∈ps,(∀r∈ps,ns.getD p 0<=ns.getD r 0)->∀H',ButT T0 H H'->Lam T0 pos q H'->Q (.int (p:Int)) H'
theorem rT{p' p4 pos kp kp2:Pos}{k:Nat}(hc:X.calm=true)(hr:Room k X.A)(hN:X.N= [Str.ofString "numbers",Str.ofString "places"])(hn:X.env.scope.names.lookup (Str.ofString "numbers")=some .cell)(hpl:Vis X.env.scope (Str.ofString "places"))(hcode:X.env.code= .ref c0)(C:PySem.W.codeHdIn X.K c0 T0=true)(hB:X.base.BuiltinsAt X.mg T0)(hg:Gl X (Str.ofString "min"))(hm:X.mg (Str.ofString "min")=none):
 PE X (.Call (.Name "min" p) [.Name "places" p'] [⟨some (Str.ofString "key"), .Lambda (lmAr p0) (lmBd p1 p2 p3) lmSc pos,kp⟩,⟨some (Str.ofString "default"), .Constant .none 0 p4,kp2⟩] cpos) (vS X.K T0 pos (X.env.qual++"<lambda>")):=by
 intro pins s σ H Q I h;refine hZq fun q_ e_=>?_;obtain⟨a,b,ns,ps,e0,e1,ha,hb,bi,hL,a0,au⟩:=h;subst e_;refine wpAny_Call_Name_kw (dB I hg hm boot_min ?_ (by decide) (by decide))
 refine PyProof.Rows.callWith_kw (thn ((a7 (rS (i:=1) (by rw[hN];rfl) hpl) a9) cpos pins s σ H (fun vs H1=>vs= [.ref b]/\H1=H) I (Y8 _ e1 rfl rfl)) fun us s1 ⟨vs,H1,I1,r1,q1⟩=>?_)
 refine hZq fun q_ e_=>?_;obtain⟨rfl,rfl⟩:=q1;obtain⟨u,rfl,ru⟩:=dh r1;subst e_;cases ru;obtain⟨bP,hT⟩:=hL.tb;show wpAny _ _ (evalAll ((do let v<-eval (.Lambda (lmAr p0) (lmBd p1 p2 p3) lmSc pos) X.env;standAt cpos;pure v)::(do let v<-eval (.Constant .none 0 p4) X.env;standAt cpos;pure v):: [])) _ _ s1
 have lk:=I1.loc;refine hZq fun q_ e_=>?_;obtain⟨m,bI,bv⟩:=lk;obtain⟨u,ru,l⟩:=bv 0 (Str.ofString "numbers") (.ref a) (by rw[hN];rfl) e0 (.inr (.inl hn))
 subst e_;cases ru
 obtain⟨c,aB,bb⟩:∃c,X.env.cells.lookup (Str.ofString "numbers")=some c/\s1.heap.IsCell c (some (.ref a)):=by
  rcases l with⟨l,_⟩|⟨_,l⟩
  . have:X.env.scope.names.lookup (Str.ofString "numbers")=some .local:=l;rw[hn]at this;cases this
  . exact l
 refine wpAny_evalAll_cons (wpAny_bind (sL I1 hcode C hB rfl (uI aB) hL fun f c' bR H2 d I2 bt a3 aT=>wpAny_bind (wpAny_standAt (wpAny_pure ?_))));refine wpAny_evalAll_cons (wpAny_bind (Constant_none (wpAny_bind (wpAny_standAt (wpAny_pure (wpAny_evalAll_nil ?_))))));show wpAny _ X.A (call (.builtin "min") [.ref b] [(Str.ofString "key", .ref f),(Str.ofString "default", .none)]) _ _ d;have bj:=SqL.butT hT bt hb;have bC:=SqL.butT hT bt ha;refine hZq fun q_ e_=>?_;obtain⟨its,rv,pl,_⟩:=I2.list bj;obtain⟨a1,a6,bF,a5⟩:=I2.list bC;subst e_;have ao:=rv.length;unfold nv at ao;rw[yR]at ao;have aC:b < d.heap.objs.size:=by obtain⟨_,e,_⟩:=pl.isList;exact Heap.lt_size e
 have bg:=(I2.pin _ (zy _ yT)).1
 have ai:d.heap.IsCell c (some (.ref a)):=by
  refine hZq fun q_ e_=>?_;obtain⟨m2,_,aA⟩:=I2.loc;obtain⟨u,ru,l⟩:=aA 0 (Str.ofString "numbers") (.ref a) (by rw[hN];rfl) e0 (.inr (.inl hn))
  subst e_;cases ru;rcases l with⟨l,_⟩|⟨_,c2,l1,l2⟩
  . have:X.env.scope.names.lookup (Str.ofString "numbers")=some .local:=l;rw[hn]at this;cases this
  . rw[aB]at l1;cases l1;exact l2
 refine PyProof.Rows.kmk_tree PySem.F.kind_min PySem.F.plain_min PySem.F.entry_min (pK _ _ _) ?_;show wpAny _ X.A.in1 (Builtin.Builtins.bindParams "min" ["key","default"] 0 ⟨[],[(Str.ofString "key", .ref f),(Str.ofString "default", .none)]⟩ >>=fun _=>_) _ _ d;refine wpAny_bind (wpAny_of_eq (show Builtin.Builtins.bindParams "min" ["key","default"] 0 ⟨[],[(Str.ofString "key", .ref f),(Str.ofString "default", .none)]⟩=pure [some (.ref f),some .none]from rfl) ?_);refine wpAny_bind (wpAny_pure (wpAny_bind (wpAny_pyIter_list pl.isList (wpAny_bind (wpAny_newObj_type ?_ (zc _))))));rw[de];have sz1:∀o:Obj,(d.heap.push o).objs.size=d.heap.objs.size+1:=fun o=>Heap.size_push ..
 have a2:∀ {h':Heap},Kp [d.heap.objs.size] (d.heap.push {cls:= .type "list_iterator",data:= .fields #[.ref b, .int 0 0]}).objs.size ((d.heap.push {cls:= .type "list_iterator",data:= .fields #[.ref b, .int 0 0]}).push {cls:= .type "list",data:= .seq ([]:List Value).toArray}) h'->∀b o,d.heap.get? b=some o->h'.get? b=some o:=fun hk b x ex=>hk b x (fun hm=>by
  rw[zq.mp hm]at ex;exact zN _ (Heap.lt_size ex)) (fun e=>by
  have l:=Heap.lt_size ex;rw[e]at l
  exact absurd l (by rw[sz1];exact Nat.not_lt.mpr (Nat.le_succ _))) (Heap.get?_push_of_some _ (Heap.get?_push_of_some _ ex))
 have fin:∀ {x:V} {v:Value} {h':Heap} {tk:Nat},(∀b o,d.heap.get? b=some o->h'.get? b=some o)->RelV x v->Q x H2->EP X pins σ Q v {d with heap:=h',toks:=tk}:=fun hk r q=>Y5 _ H2 ((I2.unpin).kept hk) r q
 have n:∀i v,its.toArray[i]?=some v->∃(hi:i < ps.length) (t:Tok),v= .int (ps[i]:Int) t:=fun i v e=>by
  have e':its[i]?=some v:=by simpa using e
  have hi:i < ps.length:=by have:=(yZ.mp e').1;omega
  obtain⟨y,ey,ry⟩:=rv.get (i:=i) (x:= .int (ps[i]:Int)) (by unfold nv;rw[yW,yS hi];rfl)
  rw[e']at ey;cases ey;exact⟨hi,ry⟩
 refine wpAny_pure ⟨plainId_quiet PySem.F.plain_min_loop _,lV (s₀:=d) (G:=fun h=>∀b o,d.heap.get? b=some o->h.get? b=some o) (kf:=fun i=>ns.getD (ps.getD i 0) 0) (Walks.list (A:=X.A.in1) (I2.ok.hd hc) d.heap.objs.size b (zo aC) its.toArray) (fun hm=>?_) (fun h h' g k b o e=>?_) (fun i v h tk hi pv g=>?_) .none
  ⟨(Y8 _ (Heap.get?_push_of_some _ (Heap.get?_push_size _ rfl)) rfl rfl),(pl.isList.push _).push _⟩ (fun b o e=>Heap.get?_push_of_some _ (Heap.get?_push_of_some _ e)) (Heap.get?_push_size _ rfl) (fun hz h' tk hk=>?_) fun i v h' tk hi pv a4 hk=>?_⟩
 . rcases yY.mp hm with e|hm
   . exact absurd ((sz1 _).symm.trans e) (Nat.succ_ne_self _)
   . exact absurd ((sz1 _).symm.trans (zq.mp hm)) (Nat.ne_of_gt (AK aC))
 . refine k b o (fun hm=>?_) (fun e'=>?_) (g b o e)
   . rw[zq.mp hm]at e;exact zN _ (Heap.lt_size e)
   . have l:=Heap.lt_size e;rw[e']at l;exact absurd l (by rw[sz1];exact Nat.not_lt.mpr (Nat.le_succ _))
 . refine hZq fun q_ e_=>?_;obtain⟨w,t,rfl⟩:=n i v pv;have hp:=bi _ (zJ w);have ei:ps.getD i 0=ps[i]:=by simp[w]
   obtain⟨y,ey,ry⟩:=a6.get (i:=ps[i]) (x:= .int ns[ps[i]]) (by rw[yW,yS hp];rfl)
   obtain⟨ty,rfl⟩:=ry;obtain⟨oa,bB,bw⟩:=bF.isList;subst e_;have hz:=fF;rw[yR]at a5;refine sM (s:= {d with heap:=h,toks:=tk}) (a:=a) (its:=a1.toArray) (show X.A.in1.depth < _ from hr.depth) (g _ _ bg) ?_ ?_ (ai.keeps g) (Y3 oa (g _ _ bB) bw) (by omega) ?_ (u:=ty) ?_
   . refine hZq fun q_ e_=>?_;obtain⟨c2,o,vs,t,e,ho,z⟩:=aT;subst e_;exact⟨c2,J2 o vs t e (g _ _ ho) z⟩
   . exact I2.nolimit.keeps g
   . have:((ps[i]:Nat):Int) < (sizeLine:Int):=by omega
     omega
   . show(a1.toArray)[((ps[i]:Nat):Int).toNat]?=some (.int (ns.getD (ps.getD i 0) 0) ty);rw[ei,Int.toNat_natCast,show ns.getD ps[i] 0=ns[ps[i]]by simp[hp]]
     simpa using ey
 . rw[yX]at hz;exact fin (x:= .non) (a2 hk) rfl (a0 (List.eq_nil_of_length_eq_zero (by omega)) H2 bt a3)
 . obtain⟨w,t,rfl⟩:=n i v pv;have ei:ps.getD i 0=ps[i]:=by simp[w]
   refine fin (x:= .int (ps[i]:Int)) (a2 hk) ⟨_,rfl⟩ (au _ (zJ w) (fun r mr=>?_) H2 bt a3);obtain⟨j,hj,rfl⟩:=Ac mr;have:=a4 j (by rw[yX];omega)
   rw[ei,show ps.getD j 0=ps[j]by simp[hj]]at this
   exact this
end L2
namespace Wg
def sumN:Nat->(Nat->Int)->Int
 |0,_=>0
 |n+1,f=>sumN n f+f n
variable{x a:Int}{r q t:Nat}{f:Nat->Int}{B R:Nat->Vec}{T T':Tb}{v:Vec}
theorem sumN_congr{g:Nat->Int}(h:∀i,i < n->f i=g i):sumN n f=sumN n g:=by
 induction n with
 |zero=>rfl
 |succ n a=>
  rw[sumN,sumN,a fun i hi=>h i (AK hi),h n (zG n)]
theorem sumN_add{g:Nat->Int}:sumN n (fun i=>f i+g i)=sumN n f+sumN n g:=by
 induction n with
 |zero=>rfl
 |succ n a=>
  simp only[sumN,a];omega
theorem sumN_mul:sumN n (fun i=>x*f i)=x*sumN n f:=by
 induction n with
 |zero=>simp[sumN]
 |succ n a=>simp only[sumN,a,Int.mul_add]
theorem sumN_zero(h:∀i,i < n->f i=0):sumN n f=0:=by
 induction n with
 |zero=>rfl
 |succ n a=>
  rw[sumN,a fun i hi=>h i (AK hi),h n (zG n)];rfl
theorem sumN_one{k:Nat}(hk:k < n)(h:∀i,i < n->i≠k->f i=0):sumN n f=f k:=by
 induction n with
 |zero=>omega
 |succ n a=>
  rw[sumN];by_cases e:k=n
  . subst e;rw[sumN_zero fun i hi=>h i (AK hi) (by omega)]
    omega
  . rw[a (by omega) fun i hi=>h i (AK hi),h n (zG n) (fun z=>e z.symm)]
    omega
theorem qz{k:Nat}(hk:k+1 < n)(h:∀i,i < n->i≠k->i≠k+1->f i=0):sumN n f=f k+f (k+1):=by
 induction n with
 |zero=>omega
 |succ n a=>
  rw[sumN];by_cases e:k+1=n
  . subst e;rw[sumN_one (k:=k) (by omega) fun i hi hne=>h i (by omega) hne (by omega)]
  . rw[a (by omega) fun i hi=>h i (AK hi),h n (zG n) (by omega) (by omega)]
    omega
def sgn:Nat->Int
 |0=>1
 |n+1=> -sgn n
abbrev Vec:=Nat->Int
noncomputable def setV(B:Nat->Vec)(i:Nat)(v:Vec):Nat->Vec:=fun k=>if k=i then v else B k
theorem bQ:setV B i v i=v:=by unfold setV;rw[if_pos rfl]
theorem c7{k:Nat}(h:k≠i):setV B i v k=B k:=by unfold setV;rw[if_neg h]
noncomputable def skip(j:Nat)(B:Nat->Vec):Nat->Vec:=fun k c=>B (if k < j then k else k+1) (c+1)
noncomputable def det:Nat->(Nat->Vec)->Int
 |0,_=>1
 |m+1,B=>sumN (m+1) fun j=>sgn j*B j 0*det m (skip j B)
theorem det_congr:∀(m:Nat) {B C:Nat->Vec},(∀k c,k < m->c < m->B k c=C k c)->det m B=det m C
 |0,_,_,_=>rfl
 |m+1,B,C,h=>by
  rw[det,det];refine sumN_congr fun j a=>?_;rw[h j 0 a (by omega),det_congr m (B:=skip j B) (C:=skip j C) fun k c hk hc=>?_]
  unfold skip;split
  . exact h k (c+1) (by omega) (by omega)
  . exact h (k+1) (c+1) (by omega) (by omega)
theorem cL:skip i (setV B i v)=skip i B:=by
 funext k c;unfold skip;rw[c7 (by split<;>omega)]
def pos(j i:Nat):Nat:=if i < j then i else i - 1
def sh(v:Vec):Vec:=fun c=>v (c+1)
theorem gT(h:j≠i):skip j (setV B i v)=setV (skip j B) (pos j i) (sh v):=by
 funext k c;unfold skip setV pos sh;by_cases a:i < j
 . rw[if_pos a];by_cases hk:k < j
   . rw[if_pos hk];by_cases e:k=i
     . rw[if_pos e,if_pos e]
     . rw[if_neg e,if_neg e];show _=B (if k < j then k else k+1) (c+1);rw[if_pos hk]
   . rw[if_neg hk,if_neg (by omega),if_neg (by omega)]
     show _=B (if k < j then k else k+1) (c+1);rw[if_neg hk]
 . rw[if_neg a];by_cases hk:k < j
   . rw[if_pos hk,if_neg (by omega),if_neg (by omega)]
     show _=B (if k < j then k else k+1) (c+1);rw[if_pos hk]
   . rw[if_neg hk];by_cases e:k+1=i
     . rw[if_pos e,if_pos (by omega)]
     . rw[if_neg e,if_neg (by omega)]
       show _=B (if k < j then k else k+1) (c+1);rw[if_neg hk]
theorem jH:∀(m:Nat) (B:Nat->Vec) (i:Nat) (x y:Int) (u v:Vec),i < m->det m (setV B i fun c=>x*u c+y*v c)=x*det m (setV B i u)+y*det m (setV B i v)
 |0,_,i,_,_,_,_,h=>by omega
 |m+1,B,i,x,y,u,v,h=>by
  rw[det,det,det,<-sumN_mul,<-sumN_mul,<-sumN_add];refine sumN_congr fun j b=>?_;by_cases e:j=i
  . subst e;rw[bQ,bQ,bQ,cL,cL,cL];simp only[Int.mul_add,Int.add_mul];congr 1<;>simp only[<-AI]<;>congr 1<;>rw[A9 (sgn j)]
  . rw[c7 e,c7 e,c7 e,gT e,gT e,gT e];have hp:pos j i < m:=by unfold pos;split<;>omega
    have:=jH m (skip j B) (pos j i) x y (sh u) (sh v) hp;have a:(sh fun c=>x*u c+y*v c)=fun c=>x*sh u c+y*sh v c:=rfl;rw[a,this,Int.mul_add];rw[Int.mul_left_comm _ x,Int.mul_left_comm _ y]
theorem gy:∀(m:Nat) (B:Nat->Vec) (a:Nat),a+1 < m->B a=B (a+1)->det m B=0
 |0,_,_,h,_=>by omega
 |m+1,B,a,h,e=>by
  rw[det,qz (k:=a) h]
  . have hs:skip a B=skip (a+1) B:=by
     funext k c;unfold skip;by_cases hk:k < a
     . rw[if_pos hk,if_pos (by omega)]
     . rw[if_neg hk];by_cases d:k < a+1
       . have:k=a:=by omega
         subst this;rw[if_pos d,e]
       . rw[if_neg d]
    rw[hs,e];show _+ -sgn a*_*_=_;rw[Ao,Ao];omega
  . intro j f h1 h2
    have:det m (skip j B)=0:=by
     by_cases hl:a+1 < j
     . refine gy m (skip j B) a (by omega) ?_
       funext c;unfold skip;rw[if_pos (by omega),if_pos hl,e]
     . have g:j < a:=by omega
       obtain⟨b,rfl⟩:∃b,a=b+1:=⟨a - 1,by omega⟩
       refine gy m (skip j B) b (by omega) ?_
       funext c;unfold skip;rw[if_neg (by omega),if_neg (by omega),e]
    rw[this,zm]
theorem set_comm{u:Vec}(h:i≠j):setV (setV B i u) j v=setV (setV B j v) i u:=by
 funext k;unfold setV;by_cases e:k=j
 . rw[if_pos e,if_neg (by omega),if_pos e]
 . rw[if_neg e];by_cases a:k=i
   . rw[if_pos a,if_pos a]
   . rw[if_neg a,if_neg a,if_neg e]
theorem gU:setV B i (B i)=B:=by
 funext k;unfold setV;by_cases e:k=i
 . rw[if_pos e,e]
 . rw[if_neg e]
theorem jI(B:Nat->Vec)(i:Nat)(u v:Vec)(h:i < m):det m (setV B i fun c=>u c+v c)=det m (setV B i u)+det m (setV B i v):=by
 have:=jH m B i 1 1 u v h;rw[Int.one_mul,Int.one_mul]at this;rw[<-this];congr 2;funext c;rw[Int.one_mul,Int.one_mul]
theorem jG(B:Nat->Vec)(i:Nat)(x:Int)(u:Vec)(h:i < m):det m (setV B i fun c=>x*u c)=x*det m (setV B i u):=by
 have:=jH m B i x 0 u u h;rw[zQ,Ap]at this;rw[<-this];congr 2;funext c;rw[zQ,Ap]
theorem tE(B:Nat->Vec)(a:Nat)(u v:Vec)(h:a+1 < m):det m (setV (setV B a u) (a+1) v)= -det m (setV (setV B a v) (a+1) u):=by
 have z:∀w:Vec,det m (setV (setV B a w) (a+1) w)=0:=fun w=>gy m _ a h (by rw[bQ,c7 (by omega),bQ])
 have t:=z fun c=>u c+v c
 have q:∀w:Vec,det m (setV (setV B a fun c=>u c+v c) (a+1) w)=det m (setV (setV B a u) (a+1) w)+det m (setV (setV B a v) (a+1) w):=by
  intro w;rw[set_comm (by omega),jI _ _ _ _ (by omega),set_comm (by omega),set_comm (i:=a+1) (j:=a) (u:=w) (v:=v) (by omega)]
 rw[jI _ _ _ _ h,q,q]at t;rw[z u,z v]at t;omega
theorem mw:∀(d m:Nat) (B:Nat->Vec) (i:Nat),i+d+1 < m->B i=B (i+d+1)->det m B=0
 |0,m,B,i,h,e=>gy m B i h e
 |d+1,m,B,i,h,e=>by
  have hb:B=setV (setV B (i+d+1) (B (i+d+1))) (i+d+1+1) (B (i+d+1+1)):=by rw[gU,gU]
  rw[hb,tE B (i+d+1) _ _ h];rw[mw d m (setV (setV B (i+d+1) (B (i+d+1+1))) (i+d+1+1) (B (i+d+1))) i (by omega)]
  . rfl
  . rw[c7 (by omega),c7 (by omega),c7 (by omega),bQ]
    exact e
theorem uY(hi:i < m)(hj:j < m)(hne:i≠j)(e:B i=B j):det m B=0:=by
 by_cases h:i < j
 . obtain⟨d,rfl⟩:∃d,j=i+d+1:=⟨j - i - 1,by omega⟩
   exact mw d m B i hj e
 . obtain⟨d,rfl⟩:∃d,i=j+d+1:=⟨i - j - 1,by omega⟩
   exact mw d m B j hi e.symm
theorem or{m:Nat}(B:Nat->Vec)(i:Nat)(h:i < m)(e:Nat->Int)(W:Nat->Vec):∀n:Nat,det m (setV B i fun c=>sumN n fun k=>e k*W k c)=sumN n fun k=>e k*det m (setV B i (W k))
 |0=>by
  have:=jG B i 0 (fun _=>0) h;rw[zQ (det m _)]at this;show det m (setV B i fun _=>0)=0;exact this
 |n+1=>by
  rw[sumN,<-or B i h e W n,<-jG B i (e n) (W n) h,<-jI _ _ _ _ h];rfl
theorem jK(B:Nat->Vec)(D:Int)(V:Vec)(e:Nat->Int)(hV:∀c,c < m->D*V c=sumN m fun k=>e k*B k c)(i:Nat)(h:i < m):D*det m (setV B i V)=e i*det m B:=by
 rw[<-jG B i D V h];rw[det_congr m (C:=setV B i fun c=>sumN m fun k=>e k*B k c)]
 . rw[or B i h e B m,sumN_one (k:=i) h]
   . rw[gU]
   . intro k hk hne;rw[uY (i:=k) (j:=i) hk h hne,zm];rw[bQ,c7 hne]
 . intro k c hk hc;by_cases e':k=i
   . subst e';rw[bQ,bQ];exact hV c hc
   . rw[c7 e',c7 e']
theorem eS(h:r < n):(sumN n fun i=>if i=r then a else f i)=sumN n f - f r+a:=by
 induction n with
 |zero=>omega
 |succ n b=>
  rw[sumN,sumN];by_cases e:r=n
  . subst e;rw[if_pos rfl,sumN_congr (g:=f) fun i hi=>if_neg (by omega)]
    omega
  . rw[b (by omega),if_neg (by omega)]
    omega
structure Tb where
 bot:Int
 ln:Nat->Nat->Int
 sd:Nat->Nat
 hd:Nat->Nat
noncomputable def Tb.W(T:Tb)(V:Nat->Vec)(R:Nat->Vec)(n c:Nat):Vec:=fun t=>if c < n then -V (T.hd c) t else R c t
structure Inv (m n:Nat) (V R:Nat->Vec) (T:Tb):Prop where
 pos:0 < T.bot
 det:(det m fun i=>V (T.sd i)).natAbs=T.bot.natAbs
 ln:∀c t,c < n+2->t < m->(sumN m fun i=>T.ln i c*V (T.sd i) t)=T.bot*T.W V R n c t
def sg(p:Int):Int:=if p > 0 then 1 else -1
theorem r8(p:Int):sg p*p=(p.natAbs:Int):=by
 unfold sg;by_cases h:p > 0
 . rw[if_pos h];omega
 . rw[if_neg h];omega
theorem y8(p:Int):sg p*sg p=1:=by
 unfold sg;by_cases h:p > 0
 . rw[if_pos h];rfl
 . rw[if_neg h];rfl
noncomputable def Tb.num(T:Tb)(r q i c:Nat):Int:=T.ln i c*(T.ln r q).natAbs - sg (T.ln r q)*T.ln i q*T.ln r c
noncomputable def piv(T:Tb)(r q:Nat):Tb where
 bot:=(T.ln r q).natAbs
 ln:=fun i c=>if i=r then(if c=q then sg (T.ln r q)*T.bot else -sg (T.ln r q)*T.ln r c)
  else if c=q then sg (T.ln r q)*T.ln i q else T.num r q i c / T.bot
 sd:=fun i=>if i=r then T.hd q else T.sd i
 hd:=fun c=>if c=q then T.sd r else T.hd c
theorem yA(T:Tb)(r q c:Nat):T.num r q r c=0:=by
 unfold Tb.num;rw[r8,A9];omega
theorem xR{b:Int}(h:a.natAbs=b.natAbs):∃s:Int,a=s*b/\b=s*a/\s*s=1:=by
 rcases Int.natAbs_eq_natAbs_iff.1 h with e|e
 . exact Y8 1 (by omega) (by omega) rfl
 . exact Y8 (-1) (by omega) (by omega) rfl
theorem w8{V:Nat->Vec}:(fun i=>V ((piv T r q).sd i))=setV (fun i=>V (T.sd i)) r (V (T.hd q)):=by
 funext i;unfold setV piv;by_cases e:i=r
 . rw[if_pos e];simp only[e,if_true]
 . rw[if_neg e];simp only[e,if_false]
theorem nN{V:Nat->Vec}(I:Inv m n V R T)(hr:r < m)(hq:q < n):(det m fun i=>V ((piv T r q).sd i)).natAbs=(T.ln r q).natAbs:=by
 rw[w8]
 have h:=jK (fun i=>V (T.sd i)) (-T.bot) (V (T.hd q)) (fun i=>T.ln i q) (fun t ht=>by
  rw[I.ln q t (by omega) ht]
  unfold Tb.W
  rw[if_pos hq,Int.mul_neg,Ao]) r hr
 have h2:=congrArg Int.natAbs h;rw[zA,zA,I.det,A4,Nat.mul_comm]at h2;have:=I.pos;exact Nat.eq_of_mul_eq_mul_right (by omega) h2
theorem nX{b c d:Int}:(if i=r then a else b)*(if i=r then c else d)=if i=r then a*c else b*d:=by
 by_cases e:i=r
 . rw[if_pos e,if_pos e,if_pos e]
 . rw[if_neg e,if_neg e,if_neg e]
theorem rP{V:Nat->Vec}:V ((piv T r q).sd i) t=if i=r then V (T.hd q) t else V (T.sd i) t:=by
 unfold piv;by_cases e:i=r
 . simp only[e,if_true]
 . simp only[e,if_false]
theorem Inv.col{V:Nat->Vec}(I:Inv m n V R T)(hq:q < n)(ht:t < m):(sumN m fun i=>T.ln i q*V (T.sd i) t)= -(T.bot*V (T.hd q) t):=by
 rw[I.ln q t (by omega) ht]
 unfold Tb.W;rw[if_pos hq,Int.mul_neg]
theorem nK{V:Nat->Vec}(I:Inv m n V R T)(hr:r < m)(hq:q < n){c:Nat}(hc:c < n+2)(ht:t < m):
 (sumN m fun i=>(if i=r then -sg (T.ln r q)*T.bot*T.ln r c else T.num r q i c)*V ((piv T r q).sd i) t)=T.bot*(T.ln r q).natAbs*T.W V R n c t:=by
 have e1:∀i,i < m->(if i=r then -sg (T.ln r q)*T.bot*T.ln r c else T.num r q i c)*V ((piv T r q).sd i) t=if i=r then -sg (T.ln r q)*T.bot*T.ln r c*V (T.hd q) t else T.num r q i c*V (T.sd i) t:=by
  intro i hi;rw[rP (V:=V),nX]
 rw[sumN_congr e1,eS hr,yA]
 have a:∀i,i < m->T.num r q i c*V (T.sd i) t=(T.ln r q).natAbs*(T.ln i c*V (T.sd i) t)+(-(sg (T.ln r q)*T.ln r c))*(T.ln i q*V (T.sd i) t):=by
  intro i hi;unfold Tb.num;grind
 rw[sumN_congr a,sumN_add,sumN_mul,sumN_mul,I.ln c t hc ht,I.col hq ht];grind
theorem uu{V:Nat->Vec}(I:Inv m n V R T)(hr:r < m)(hq:q < n)(hp:T.ln r q≠0){c:Nat}(hc:c < n+2)(hi:i < m)(hne:i≠r):
 ∃x:Int,T.num r q i c=T.bot*x/\x.natAbs=(det m (setV (fun i=>V ((piv T r q).sd i)) i (T.W V R n c))).natAbs:=by
 have h:=jK (fun i=>V ((piv T r q).sd i)) (T.bot*(T.ln r q).natAbs) (T.W V R n c) (fun i=>if i=r then -sg (T.ln r q)*T.bot*T.ln r c else T.num r q i c) (fun t ht=>(nK I hr hq hc ht).symm) i hi;obtain⟨s,h1,h2,h3⟩:=xR (a:=det m fun i=>V ((piv T r q).sd i)) (b:=((T.ln r q).natAbs:Int)) (by rw[nN I hr hq];rfl)
 rw[h1]at h;simp only[hne,if_false]at h;have hz:((T.ln r q).natAbs:Int)≠0:=by omega
 refine Y3 (s*det m (setV (fun i=>V ((piv T r q).sd i)) i (T.W V R n c))) (Int.eq_of_mul_eq_mul_right hz ?_) ?_
 . generalize det m (setV (fun i=>V ((piv T r q).sd i)) i (T.W V R n c))=d at h;generalize T.num r q i c=u at h;generalize ((T.ln r q).natAbs:Int)=p at h;grind
 . rw[zA];have:s.natAbs*s.natAbs=1:=by rw[<-zA,h3];rfl
   rw[Nat.eq_one_of_mul_eq_one_right this,Nat.one_mul]
theorem ut{V:Nat->Vec}(I:Inv m n V R T)(hr:r < m)(hq:q < n)(hp:T.ln r q≠0){c:Nat}(hc:c < n+2)(hi:i < m)(hne:i≠r):
 T.bot*(T.num r q i c / T.bot)=T.num r q i c:=by
 obtain⟨x,h,_⟩:=uu I hr hq hp hc hi hne;have:=I.pos;rw[h,Int.mul_ediv_cancel_left _ (by omega)]
theorem piv_inv{V:Nat->Vec}(I:Inv m n V R T)(hr:r < m)(hq:q < n)(hp:T.ln r q≠0):Inv m n V R (piv T r q):=by
 refine⟨?_,?_,?_⟩
 . show(0:Int) < (T.ln r q).natAbs;omega
 . rw[nN I hr hq];rfl
 . intro c t hc ht;by_cases e:c=q
   . subst e
     have e1:∀i,i < m->(piv T r c).ln i c*V ((piv T r c).sd i) t=if i=r then sg (T.ln r c)*T.bot*V (T.hd c) t else sg (T.ln r c)*(T.ln i c*V (T.sd i) t):=by
      intro i hi;rw[rP (V:=V)];show(if i=r then(if c=c then _ else _)else if c=c then _ else _)*_=_;rw[if_pos rfl,if_pos rfl,nX,AI (sg _) (T.ln i c)]
     rw[sumN_congr e1,eS hr,sumN_mul,I.col hq ht];show _=((T.ln r c).natAbs:Int)*(if c < n then -V (if c=c then T.sd r else T.hd c) t else R c t);rw[if_pos hq,if_pos rfl,<-r8];grind
   . have e1:∀i,i < m->T.bot*((piv T r q).ln i c*V ((piv T r q).sd i) t)=(if i=r then -sg (T.ln r q)*T.bot*T.ln r c else T.num r q i c)*V ((piv T r q).sd i) t:=by
      intro i hi;show T.bot*((if i=r then(if c=q then _ else _)else if c=q then _ else _)*_)=_;rw[if_neg e,if_neg e,<-AI];congr 1;by_cases ei:i=r
      . rw[if_pos ei,if_pos ei];grind
      . rw[if_neg ei,if_neg ei];exact ut I hr hq hp hc hi ei
     have hb:T.bot≠0:=by have:=I.pos;omega
     refine Int.eq_of_mul_eq_mul_left hb ?_;rw[<-sumN_mul,sumN_congr e1,nK I hr hq hc ht,AI];congr 2;show(if c < n then -V (T.hd c) t else R c t)=(if c < n then -V (if c=q then T.sd r else T.hd c) t else R c t);rw[if_neg e]
def fac:Nat->Nat
 |0=>1
 |n+1=>(n+1)*fac n
theorem uf{K:Nat}(h:∀i,i < n->(f i).natAbs<=K):(sumN n f).natAbs<=n*K:=by
 induction n with
 |zero=>exact zc _
 |succ n a=>
  rw[sumN,Nat.succ_mul];exact z7 (Int.natAbs_add_le _ _) (Nat.add_le_add (a fun i hi=>h i (by omega)) (h n (by omega)))
theorem nE:∀j:Nat,(sgn j).natAbs=1
 |0=>rfl
 |j+1=>by rw[sgn,A4,nE j]
theorem mv{M:Nat}:∀(m:Nat) (B:Nat->Vec),(∀k c,k < m->c < m->(B k c).natAbs<=M)->(det m B).natAbs<=fac m*M^m
 |0,_,_=>yV _
 |m+1,B,h=>by
  rw[det,fac,Nat.mul_assoc];refine uf fun j a=>?_;rw[zA,zA,nE,Nat.one_mul,Nat.pow_succ,<-Nat.mul_assoc,Nat.mul_comm];refine AB (mv m (skip j B) fun k c hk hc=>?_) (h j 0 a (by omega))
  unfold skip;split
  . exact h _ _ (by omega) (by omega)
  . exact h _ _ (by omega) (by omega)
theorem Inv.entry{V:Nat->Vec}(I:Inv m n V R T){c:Nat}(hi:i < m)(hc:c < n+2):(T.ln i c).natAbs=(Wg.det m (setV (fun i=>V (T.sd i)) i (T.W V R n c))).natAbs:=by
 have h:=congrArg Int.natAbs (jK (fun i=>V (T.sd i)) T.bot (T.W V R n c) (fun i=>T.ln i c) (fun t ht=>(I.ln c t hc ht).symm) i hi);rw[zA,zA,I.det,Nat.mul_comm]at h;have:=I.pos;exact(Nat.eq_of_mul_eq_mul_right (by omega) h).symm
theorem Inv.bot_le{M:Nat}{V:Nat->Vec}(I:Inv m n V R T)(hV:∀k t,t < m->(V k t).natAbs<=M):T.bot.natAbs<=fac m*M^m:=by
 rw[<-I.det];exact mv m _ fun k c hk hc=>hV _ c hc
theorem Inv.ln_le{M:Nat}{V:Nat->Vec}(I:Inv m n V R T)(hV:∀k t,t < m->(V k t).natAbs<=M)(hR:∀c t,c < n+2->t < m->(R c t).natAbs<=M){c:Nat}(hi:i < m)(hc:c < n+2):(T.ln i c).natAbs<=fac m*M^m:=by
 rw[I.entry hi hc];refine mv m _ fun k t hk ht=>?_;by_cases e:k=i
 . subst e;rw[bQ];unfold Tb.W;split
   . rw[A4];exact hV _ t ht
   . exact hR c t hc ht
 . rw[c7 e];exact hV _ t ht
theorem sumN_comm{g:Nat->Nat->Int}:∀(m n:Nat),(sumN m fun i=>sumN n fun c=>g i c)=sumN n fun c=>sumN m fun i=>g i c
 |0,n=>by
  show 0=_;exact(sumN_zero fun c hc=>rfl).symm
 |m+1,n=>by
  show _+_=sumN n fun c=>(sumN m fun i=>g i c)+g m c;rw[sumN_add,sumN_comm m n]
theorem yG(hB:det m B≠0)(y:Nat->Int)(h:∀t,t < m->(sumN m fun i=>y i*B i t)=0)(hi:i < m):y i=0:=by
 have:=jK B 0 (fun _=>0) y (fun t ht=>by rw[h t ht];rfl) i hi
 rw[zQ]at this;exact(Int.mul_eq_zero.1 this.symm).resolve_right hB
theorem Inv.nz{V:Nat->Vec}(I:Inv m n V R T):(Wg.det m fun i=>V (T.sd i))≠0:=by
 intro h;have h1:=I.det;have:=I.pos;rw[h]at h1;have h2:(0:Int).natAbs=0:=rfl;omega
theorem sumN_mulr:(sumN n fun i=>f i*x)=sumN n f*x:=by
 rw[A9,<-sumN_mul];exact sumN_congr fun i hi=>A9 _ _
theorem Inv.row{V:Nat->Vec}(I:Inv m n V R T)(x:Nat->Int)(b e:Int)(hx:∀t,t < m->((sumN m fun i=>x (T.sd i)*V (T.sd i) t)+sumN n fun c=>x (T.hd c)*V (T.hd c) t)=b*R n t+e*R (n+1) t)(hi:i < m):
 T.bot*x (T.sd i)=(sumN n fun c=>T.ln i c*x (T.hd c))+b*T.ln i n+e*T.ln i (n+1):=by
 have key:=yG I.nz (fun i=>T.bot*x (T.sd i)+ -1*((sumN n fun c=>T.ln i c*x (T.hd c))+b*T.ln i n+e*T.ln i (n+1))) (fun t ht=>?_) hi
 . omega
 . have e1:∀i,i < m->(T.bot*x (T.sd i)+ -1*((sumN n fun c=>T.ln i c*x (T.hd c))+b*T.ln i n+e*T.ln i (n+1)))*V (T.sd i) t
    =T.bot*(x (T.sd i)*V (T.sd i) t)+ -1*((sumN n fun c=>T.ln i c*x (T.hd c)*V (T.sd i) t)+b*(T.ln i n*V (T.sd i) t)+e*(T.ln i (n+1)*V (T.sd i) t)):=by
    intro i hi;rw[sumN_mulr];grind
   rw[sumN_congr e1,sumN_add,sumN_mul,sumN_mul,sumN_add,sumN_add,sumN_mul,sumN_mul,sumN_comm]
   have d:∀c,c < n->(sumN m fun i=>T.ln i c*x (T.hd c)*V (T.sd i) t)= -T.bot*(x (T.hd c)*V (T.hd c) t):=by
    intro c hc;rw[sumN_congr (g:=fun i=>x (T.hd c)*(T.ln i c*V (T.sd i) t)) fun i hi=>by grind,sumN_mul,I.col hc ht]
    grind
   rw[sumN_congr d,sumN_mul,I.ln n t (by omega) ht,I.ln (n+1) t (by omega) ht]
   have a:T.W V R n n t=R n t:=if_neg (by omega)
   have f:T.W V R n (n+1) t=R (n+1) t:=if_neg (by omega)
   rw[a,f];have:=hx t ht;grind
theorem bK{f:Nat->Int}:∀ {n:Nat},(∀i,i < n->0<=f i)->0<=sumN n f
 |0,_=>Al _
 |n+1,h=>by
  rw[sumN];have:=bK (n:=n) fun i hi=>h i (by omega)
  have:=h n (by omega)
  omega
theorem cJ{f:Nat->Int}{k:Nat}:∀ {n:Nat},(∀i,i < n->0<=f i)->k < n->f k<=sumN n f
 |0,_,hk=>by omega
 |n+1,h,hk=>by
  rw[sumN];have h2:=h n (by omega)
  by_cases e:k=n
  . subst e;have:=bK (n:=k) fun i hi=>h i (by omega)
    omega
  . have:=cJ (n:=n) (fun i hi=>h i (by omega)) (by omega:k < n)
    omega
theorem gN{f:Nat->Int}{k l:Nat}:∀ {n:Nat},(∀i,i < n->0<=f i)->k < n->l < n->k≠l->f k+f l<=sumN n f
 |0,_,hk,_,_=>by omega
 |n+1,h,hk,hl,hne=>by
  rw[sumN];have h2:=h n (by omega)
  by_cases e:k=n
  . subst e;have:=cJ (k:=l) (n:=k) (fun i hi=>h i (by omega)) (by omega)
    omega
  . by_cases a:l=n
    . subst a;have:=cJ (k:=k) (n:=l) (fun i hi=>h i (by omega)) (by omega)
      omega
    . have:=gN (n:=n) (fun i hi=>h i (by omega)) (by omega:k < n) (by omega:l < n) hne
      omega
def Pm(m n:Nat)(T:Tb):Prop:=∀f:Nat->Int,(sumN m fun i=>f (T.sd i))+(sumN n fun c=>f (T.hd c))=sumN (m+n) f
def ind(k:Nat):Nat->Int:=fun x=>if x=k then 1 else 0
theorem cM(k x:Nat):0<=ind k x:=by unfold ind;split<;>omega
theorem c6(k:Nat):ind k k=1:=if_pos rfl
theorem eI{k x:Nat}(h:x≠k):ind k x=0:=if_neg h
theorem jb{k N:Nat}:sumN N (ind k)<=1:=by
 by_cases h:k < N
 . rw[sumN_one h fun i hi hne=>eI hne,c6];exact Al _
 . rw[sumN_zero fun i hi=>eI (by omega)]
   decide
theorem Pm.sd_lt(P:Pm m n T)(hi:i < m):T.sd i < m+n:=by
 refine Classical.byContradiction fun h=>?_;have h1:=P (ind (T.sd i));rw[sumN_zero (f:=ind (T.sd i)) (n:=m+n) fun j a=>eI (by omega)]at h1
 have h2:=cJ (f:=fun j=>ind (T.sd i) (T.sd j)) (fun j a=>cM _ _) hi;have h3:=bK (f:=fun c=>ind (T.sd i) (T.hd c)) (n:=n) fun j a=>cM _ _;rw[c6]at h2;omega
theorem Pm.hd_lt(P:Pm m n T){c:Nat}(hc:c < n):T.hd c < m+n:=by
 refine Classical.byContradiction fun h=>?_;have h1:=P (ind (T.hd c));rw[sumN_zero (f:=ind (T.hd c)) (n:=m+n) fun j a=>eI (by omega)]at h1
 have h2:=cJ (f:=fun j=>ind (T.hd c) (T.hd j)) (fun j a=>cM _ _) hc;have h3:=bK (f:=fun j=>ind (T.hd c) (T.sd j)) (n:=m) fun j a=>cM _ _;rw[c6]at h2;omega
theorem Pm.inj{m n:Nat}{T:Tb}(P:Pm m n T){i j:Nat}(hi:i < m)(hj:j < m)(e:T.sd i=T.sd j):i=j:=by
 refine Classical.byContradiction fun h=>?_;have h1:=P (ind (T.sd i));have a:=jb (k:=T.sd i) (N:=m+n);have h2:=gN (f:=fun j=>ind (T.sd i) (T.sd j)) (fun j hj=>cM _ _) hi hj h;have h3:=bK (f:=fun c=>ind (T.sd i) (T.hd c)) (n:=n) fun j hj=>cM _ _;rw[<-e,c6]at h2;omega
theorem Pm.injh(P:Pm m n T)(hi:i < n)(hj:j < n)(e:T.hd i=T.hd j):i=j:=by
 refine Classical.byContradiction fun h=>?_;have h1:=P (ind (T.hd i));have a:=jb (k:=T.hd i) (N:=m+n);have h2:=gN (f:=fun j=>ind (T.hd i) (T.hd j)) (fun j hj=>cM _ _) hi hj h;have h3:=bK (f:=fun c=>ind (T.hd i) (T.sd c)) (n:=m) fun j hj=>cM _ _;rw[<-e,c6]at h2;omega
theorem Pm.disj(P:Pm m n T){c:Nat}(hi:i < m)(hc:c < n):T.sd i≠T.hd c:=by
 intro e;have h1:=P (ind (T.sd i));have b:=jb (k:=T.sd i) (N:=m+n);have h2:=cJ (f:=fun j=>ind (T.sd i) (T.sd j)) (fun j a=>cM _ _) hi;have h3:=cJ (f:=fun c=>ind (T.sd i) (T.hd c)) (fun j a=>cM _ _) hc;rw[c6]at h2;rw[<-e,c6]at h3;omega
theorem Pm.cov(P:Pm m n T){k:Nat}(hk:k < m+n):(∃i,i < m/\T.sd i=k)\/∃c,c < n/\T.hd c=k:=by
 refine Classical.byContradiction fun h=>?_;have h1:=P (ind k);rw[sumN_one hk fun i hi hne=>eI hne,c6,sumN_zero fun i hi=>eI fun e=>h (.inl ⟨i,hi,e⟩),sumN_zero fun i hi=>eI fun e=>h (.inr ⟨i,hi,e⟩)]at h1;omega
theorem Pm.piv{m n:Nat}{T:Tb}(P:Pm m n T){r q:Nat}(hr:r < m)(hq:q < n):Pm m n (piv T r q):=by
 intro f
 have e1:(fun i=>f ((Wg.piv T r q).sd i))=fun i=>if i=r then f (T.hd q)else f (T.sd i):=by
  funext i;show f (if i=r then _ else _)=_;split<;>rfl
 have a:(fun c=>f ((Wg.piv T r q).hd c))=fun c=>if c=q then f (T.sd r)else f (T.hd c):=by
  funext c;show f (if c=q then _ else _)=_;split<;>rfl
 rw[e1,a,eS (f:=fun i=>f (T.sd i)) hr,eS (f:=fun i=>f (T.hd i)) hq,<-P f];omega
noncomputable def val(n:Nat)(M:Int)(T:Tb)(i:Nat):Int:=M*T.ln i n+T.ln i (n+1)
noncomputable def pt(m n:Nat)(M:Int)(T:Tb)(k:Nat):Int:=sumN m fun i=>if T.sd i=k then val n M T i else 0
theorem pt_sd(P:Pm m n T)(hi:i < m):pt m n M T (T.sd i)=val n M T i:=by
 unfold pt;rw[sumN_one hi fun j a hne=>if_neg fun e=>hne (P.inj a hi e),if_pos rfl]
theorem pt_hd(P:Pm m n T){c:Nat}(hc:c < n):pt m n M T (T.hd c)=0:=by
 unfold pt;exact sumN_zero fun j a=>if_neg (P.disj a hc)
theorem row_at{V:Nat->Vec}(I:Inv m n V R T)(P:Pm m n T)(I':Inv m n V R T')(P':Pm m n T')(hi:i < m):
 T'.bot*pt m n M T (T'.sd i)=(sumN n fun c=>T'.ln i c*pt m n M T (T'.hd c))+T.bot*val n M T' i:=by
 rw[I'.row (pt m n M T) (T.bot*M) T.bot (fun t ht=>?_) hi]
 . unfold val;grind
 . rw[P' fun k=>pt m n M T k*V k t,<-P fun k=>pt m n M T k*V k t]
   have e1:∀i,i < m->pt m n M T (T.sd i)*V (T.sd i) t=M*(T.ln i n*V (T.sd i) t)+T.ln i (n+1)*V (T.sd i) t:=by
    intro i hi;rw[pt_sd P hi];unfold val;grind
   rw[sumN_congr e1,sumN_add,sumN_mul,sumN_zero (n:=n) (fun c hc=>by rw[pt_hd P hc,zQ]),I.ln n t (by omega) ht,I.ln (n+1) t (by omega) ht]
   have a:T.W V R n n t=R n t:=if_neg (by omega)
   have b:T.W V R n (n+1) t=R (n+1) t:=if_neg (by omega)
   rw[a,b];grind
theorem jZ{k:Nat}:∀ {n:Nat},(∀i,i < n->f i<=0)->k < n->sumN n f<=f k:=by
 intro n h hk;have:=cJ (f:=fun i=> -1*f i) (k:=k) (n:=n) (fun i hi=>by have:=h i hi;omega) hk
 rw[sumN_mul]at this;omega
structure Stp (m n:Nat) (M:Int) (T:Tb) (r q:Nat):Prop where
 hr:r < m
 hq:q < n
 sl:T.sd r < m
 neg:val n M T r < 0
 least:∀i,i < m->T.sd i < m->val n M T i < 0->T.sd r<=T.sd i
 pos:0 < T.ln r q
 head:∀c,c < n->0 < T.ln r c->T.hd q<=T.hd c
def side(m:Nat)(T:Tb)(k:Nat):Prop:=∃i,i < m/\T.sd i=k
theorem ki(P:Pm m n T)(hr:r < m)(hq:q < n){k:Nat}:side m (piv T r q) k↔(k=T.hd q\/(side m T k/\k≠T.sd r)):=by
 constructor
 . rintro⟨i,hi,e⟩;have e':(if i=r then T.hd q else T.sd i)=k:=e;by_cases h:i=r
   . rw[if_pos h]at e';exact .inl e'.symm
   . rw[if_neg h]at e';refine .inr ⟨⟨i,hi,e'⟩,fun z=>h (P.inj hi hr (e'.trans z))⟩
 . rintro(e|⟨⟨i,hi,e⟩,hne⟩)
   . exact⟨r,hr,(if_pos rfl).trans e.symm⟩
   . exact⟨i,hi,(if_neg fun z=>hne (by rw[<-e,z])).trans e⟩
theorem yP{V:Nat->Vec}(I:Inv m n V R T)(P:Pm m n T)(I':Inv m n V R T')(P':Pm m n T')(S:Stp m n M T r q)(S':Stp m n M T' r' q')(e:T.sd r=T'.hd q')(ha:T'.sd r' < T.sd r)(hb:∀c,c < n->c≠q'->T'.hd c < T.sd r\/¬side m T (T'.hd c)):False:=by
 have nn:∀k,k < T.sd r->0<=pt m n M T k:=by
  intro k hk;have a:k < m+n:=by have:=P.sd_lt S.hr;omega
  rcases P.cov a with⟨i,hi,e⟩|⟨c,hc,e⟩
  . rw[<-e,pt_sd P hi];refine Classical.byContradiction fun h=>?_;have:=S.least i hi (by have:=S.sl;omega) (by omega)
    omega
  . rw[<-e,pt_hd P hc];exact Al _
 have h:=row_at (M:=M) I P I' P' S'.hr;have h1:0<=T'.bot*pt m n M T (T'.sd r'):=AD (by have:=I'.pos;omega) (nn _ ha)
 have h2:T.bot*val n M T' r' < 0:=Int.mul_neg_of_pos_of_neg I.pos S'.neg
 have h3:∀c,c < n->T'.ln r' c*pt m n M T (T'.hd c)<=0:=by
  intro c hc;by_cases ec:c=q'
  . subst ec;rw[<-e,pt_sd P S.hr];exact AG (Int.mul_neg_of_pos_of_neg S'.pos S.neg)
  . rcases hb c hc ec with hl|hs
    . have hn:T'.ln r' c<=0:=by
       refine Classical.byContradiction fun z=>?_;have:=S'.head c hc (by omega)
       omega
      exact Ad hn (nn _ hl)
    . have:pt m n M T (T'.hd c)=0:=by
       rcases P.cov (P'.hd_lt hc)with h|⟨d,hd,e⟩
       . exact absurd h hs
       . rw[<-e,pt_hd P hd]
      rw[this,zm];exact Al _
 have f:=jZ h3 S'.hq;have b:=h3 q' S'.hq;omega
theorem i8{P:Nat->Prop}{a:Nat}(ha:P a):∀N:Nat,(∀k,P k->k < N)->∃g,P g/\∀k,P k->k<=g
 |0,h=>absurd (h a ha) (by omega)
 |N+1,h=>by
  by_cases z:P N
  . exact⟨N,z,fun k hk=>by have:=h k hk;omega⟩
  . refine i8 ha N fun k hk=>?_;have:=h k hk;have:k≠N:=fun e=>z (e▸hk);omega
structure Rn (m n:Nat) (V R:Nat->Vec) (M:Int) (T:Nat->Tb) (r q:Nat->Nat) (J:Nat):Prop where
 inv:Inv m n V R (T 0)
 pm:Pm m n (T 0)
 st:∀j,j < J->Stp m n M (T j) (r j) (q j)
 nx:∀j,j < J->T (j+1)=piv (T j) (r j) (q j)
variable{q r:Nat->Nat}{T:Nat->Tb}
theorem Rn.all{V:Nat->Vec}(H:Rn m n V R M T r q J):∀j,j<=J->Inv m n V R (T j)/\Pm m n (T j)
 |0,_=>⟨H.inv,H.pm⟩
 |j+1,h=>by
  have⟨I,P⟩:=H.all j (by omega)
  have S:=H.st j (by omega)
  rw[H.nx j (by omega)]
  exact⟨piv_inv I S.hr S.hq (by have:=S.pos;omega),P.piv S.hr S.hq⟩
theorem Rn.side{V:Nat->Vec}(H:Rn m n V R M T r q J){k:Nat}(h:j < J):side m (T (j+1)) k↔(k=(T j).hd (q j)\/(side m (T j) k/\k≠(T j).sd (r j))):=by
 have S:=H.st j h;rw[H.nx j h];exact ki (H.all j (by omega)).2 S.hr S.hq
theorem Rn.leaves{V:Nat->Vec}(H:Rn m n V R M T r q J){k a:Nat}(ha:Wg.side m (T a) k):∀d,a+d<=J->¬Wg.side m (T (a+d)) k->∃j,j < J/\(T j).sd (r j)=k
 |0,_,h=>absurd ha h
 |d+1,hd,h=>by
  by_cases z:Wg.side m (T (a+d)) k
  . refine⟨a+d,by omega,?_⟩
    refine Classical.byContradiction fun hne=>h ?_;exact(H.side (j:=a+d) (by omega)).2 (.inr ⟨z,fun e=>hne e.symm⟩)
  . exact H.leaves ha d (by omega) z
theorem Rn.enters{V:Nat->Vec}(H:Rn m n V R M T r q J){k a:Nat}(ha:¬Wg.side m (T a) k):∀d,a+d<=J->Wg.side m (T (a+d)) k->∃j,j < J/\(T j).hd (q j)=k
 |0,_,h=>absurd h ha
 |d+1,hd,h=>by
  by_cases z:Wg.side m (T (a+d)) k
  . exact H.enters ha d (by omega) z
  . rcases(H.side (j:=a+d) (by omega)).1 h with e|⟨b,_⟩
    . exact⟨a+d,by omega,e.symm⟩
    . exact absurd b z
theorem Rn.const{V:Nat->Vec}(H:Rn m n V R M T r q J){k:Nat}(hk:¬∃j,j < J/\((T j).sd (r j)=k\/(T j).hd (q j)=k)):∀j,j<=J->(Wg.side m (T j) k↔Wg.side m (T 0) k)
 |0,_=>Iff.rfl
 |j+1,h=>by
  rw[<-H.const hk j (by omega),H.side (j:=j) (by omega)]
  constructor
  . rintro(e|⟨z,_⟩)
    . exact absurd ⟨j,by omega, .inr e.symm⟩ hk
    . exact z
  . exact fun z=> .inr ⟨z,fun e=>hk ⟨j,by omega, .inl e.symm⟩⟩
theorem Rn.no_circle{V:Nat->Vec}(H:Rn m n V R M T r q J)(hJ:0 < J)(same:∀k,Wg.side m (T 0) k↔Wg.side m (T J) k):False:=by
 have lv:∀j,j < J->Wg.side m (T j) ((T j).sd (r j)):=fun j h=>Y3 (r j) ((H.st j h).hr) rfl;have en:∀j,j < J->¬Wg.side m (T j) ((T j).hd (q j)):=fun j h ⟨i,hi,e⟩=>(H.all j (by omega)).2.disj hi (H.st j h).hq e
 have ne:∀j,j < J->(T j).sd (r j)≠(T j).hd (q j):=fun j h=>(H.all j (by omega)).2.disj (H.st j h).hr (H.st j h).hq
 obtain⟨g,hg,o⟩:=i8 (P:=fun k=>∃j,j < J/\((T j).sd (r j)=k\/(T j).hd (q j)=k)) (Y3 0 hJ (.inl rfl)) (m+n) (by
  rintro k ⟨j,b,e|e⟩
  . rw[<-e];exact(H.all j (by omega)).2.sd_lt (H.st j b).hr
  . rw[<-e];exact(H.all j (by omega)).2.hd_lt (H.st j b).hq)
 have p:(∃j,j < J/\(T j).sd (r j)=g)/\∃j,j < J/\(T j).hd (q j)=g:=by
  obtain⟨j,b,e|e⟩:=hg
  . refine⟨(Y3 j b e),?_⟩;have s1:Wg.side m (T j) g:=e▸lv j b
    have u:¬Wg.side m (T (j+1)) g:=by
     rw[H.side b];rintro(z|⟨_,z⟩)
     . exact ne j b (e.trans z)
     . exact z e.symm
    by_cases z:Wg.side m (T 0) g
    . have:=(same g).1 z;obtain⟨d,rfl⟩:∃d,J=j+1+d:=⟨J - j - 1,by omega⟩
      exact H.enters u d (yV _) this
    . exact H.enters (a:=0) z j (by omega) (by rw[Nat.zero_add];exact s1)
  . refine⟨?_,(Y3 j b e)⟩;have s1:¬Wg.side m (T j) g:=e▸en j b;have u:Wg.side m (T (j+1)) g:=(H.side b).2 (.inl e.symm);by_cases z:Wg.side m (T 0) g
    . exact H.leaves (a:=0) z j (by omega) (by rw[Nat.zero_add];exact s1)
    . have:¬Wg.side m (T J) g:=fun y=>z ((same g).2 y);obtain⟨d,rfl⟩:∃d,J=j+1+d:=⟨J - j - 1,by omega⟩
      exact H.leaves u d (yV _) this
 obtain⟨⟨t,h1,e1⟩,⟨l,h2,v⟩⟩:=p;have w:=H.all t (by omega)
 have s:=H.all l (by omega)
 refine yP w.1 w.2 s.1 s.2 (H.st t h1) (H.st l h2) (e1.trans v.symm) ?_ ?_
 . have:=o _ (Y3 l h2 (.inl rfl));have:=ne l h2;omega
 . intro c hc hne;have x:(T l).hd c≠g:=fun e=>hne (s.2.injh hc (H.st l h2).hq (e.trans v.symm));by_cases f:∃j,j < J/\((T j).sd (r j)=(T l).hd c\/(T j).hd (q j)=(T l).hd c)
   . have:=o _ f;exact .inl (by omega)
   . refine .inr fun z=>?_;have:=(H.const f l (by omega)).2 ((H.const f t (by omega)).1 z)
     obtain⟨i,hi,e⟩:=this;exact s.2.disj hi hc e
theorem sV:∀(K J:Nat) (f:Nat->Nat),(∀i,i<=J->f i < K)->(∀i j,i<=J->j<=J->f i=f j->i=j)->J < K
 |0,J,f,h,_=>absurd (h 0 (by omega)) (by omega)
 |K+1,0,f,_,_=>by omega
 |K+1,J+1,f,h,inj=>by
  have:=sV K J (fun i=>if f i=K then f (J+1)else f i) (fun i hi=>by
   by_cases e:f i=K
   . have h1:=h (J+1) (by omega)
     have h2:f (J+1)≠K:=fun z=>by have:=inj i (J+1) (by omega) (by omega) (e.trans z.symm);omega
     simp only[e,if_true];omega
   . have:=h i (by omega)
     simp only[e,if_false]
     omega) (fun i j hi c e=>by
   by_cases a:f i=K
   . by_cases b:f j=K
     . exact inj i j (by omega) (by omega) (a.trans b.symm)
     . simp only[a,b,if_true,if_false]at e;have:=inj _ _ (by omega) (by omega) e
       omega
   . by_cases b:f j=K
     . simp only[a,b,if_true,if_false]at e;have:=inj _ _ (by omega) (by omega) e
       omega
     . simp only[a,b,if_false]at e
       exact inj _ _ (by omega) (by omega) e)
  omega
open Classical in
noncomputable def code(S:Nat->Prop):Nat->Nat
 |0=>0
 |k+1=>2*code S k+if S k then 1 else 0
theorem jN(S:Nat->Prop):∀N,code S N < 2^N
 |0=>by rw[code];decide
 |N+1=>by
  have:=jN S N;rw[code,Nat.pow_succ];split<;>omega
theorem fg{S S':Nat->Prop}:∀N,code S N=code S' N->∀k,k < N->(S k↔S' k)
 |0,_,k,hk=>by omega
 |N+1,h,k,hk=>by
  rw[code,code]at h;by_cases a:S N
  . by_cases b:S' N
    . rw[if_pos a,if_pos b]at h;by_cases e:k=N
      . subst e;exact⟨fun _=>b,fun _=>a⟩
      . exact fg N (by omega) k (by omega)
    . rw[if_pos a,if_neg b]at h;omega
  . by_cases b:S' N
    . rw[if_neg a,if_pos b]at h;omega
    . rw[if_neg a,if_neg b]at h;by_cases e:k=N
      . subst e;exact⟨fun z=>absurd z a,fun z=>absurd z b⟩
      . exact fg N (by omega) k (by omega)
theorem Rn.part{V:Nat->Vec}(H:Rn m n V R M T r q J){d:Nat}(h:i+d<=J):Rn m n V R M (fun k=>T (i+k)) (fun k=>r (i+k)) (fun k=>q (i+k)) d:=
 ⟨(H.all i (by omega)).1,(H.all i (by omega)).2,fun j a=>H.st (i+j) (by omega),fun j a=>H.nx (i+j) (by omega)⟩
theorem Rn.no_twice{V:Nat->Vec}(H:Rn m n V R M T r q J)(hij:i < j)(hj:j<=J)(e:code (Wg.side m (T i)) (m+n)=code (Wg.side m (T j)) (m+n)):False:=by
 obtain⟨d,rfl⟩:∃d,j=i+d:=⟨j - i,by omega⟩
 refine(H.part hj).no_circle (by omega) fun k=>?_
 show Wg.side m (T i) k↔Wg.side m (T (i+d)) k;by_cases hk:k < m+n
 . exact fg (m+n) e k hk
 . constructor
   . rintro⟨a,ha,z⟩;have:=(H.all i (by omega)).2.sd_lt ha
     omega
   . rintro⟨a,ha,z⟩;have:=(H.all (i+d) hj).2.sd_lt ha;omega
theorem Rn.few{V:Nat->Vec}(H:Rn m n V R M T r q J):J < 2^(m+n):=by
 refine sV (2^(m+n)) J (fun i=>code (Wg.side m (T i)) (m+n)) (fun i hi=>jN _ _) fun i j hi a e=>?_;rcases Nat.lt_trichotomy i j with h|h|h
 . exact(H.no_twice h a e).elim
 . exact h
 . exact(H.no_twice h hi e.symm).elim
def Stl(m n k:Nat)(T:Tb):Prop:=∀c,c < k->c < n->m<=T.hd c->∀i,i < m->T.sd i < m->T.ln i c=0
variable{q r:Nat}{T:Tb}
theorem Stl.piv{k:Nat}{V:Nat->Vec}(I:Inv m n V R T)(h:Stl m n k T)(hr:r < m)(hq:q < n)(hs:T.sd r < m)(hp:T.ln r q≠0):Stl m n k (piv T r q):=by
 intro c hc hn hh i hi d;have a:m<=if c=q then T.sd r else T.hd c:=hh;have b:(if i=r then T.hd q else T.sd i) < m:=d;have e:c≠q:=fun e=>by rw[if_pos e]at a;omega
 rw[if_neg e]at a;show(if i=r then(if c=q then _ else _)else if c=q then _ else T.num r q i c / T.bot)=0;rw[if_neg e,if_neg e];have z:=h c hc hn a r hr hs;by_cases ei:i=r
 . rw[if_pos ei,z,zm]
 . rw[if_neg ei]at b ⊢;have f:=h c hc hn a i hi b;unfold Tb.num;rw[z,f];simp
theorem kS:∀(m:Nat) (B:Nat->Vec),(∀k c,k < m->c < m->B k c=if k=c then 1 else 0)->det m B=1
 |0,_,_=>rfl
 |m+1,B,h=>by
  rw[det,sumN_one (k:=0) (by omega)]
  . rw[h 0 0 (by omega) (by omega),if_pos rfl,kS m (skip 0 B)]
    . rfl
    . intro k c hk hc;unfold skip;rw[if_neg (by omega),h (k+1) (c+1) (by omega) (by omega)]
      by_cases e:k=c
      . rw[if_pos e,if_pos (by omega)]
      . rw[if_neg e,if_neg (by omega)]
  . intro j a hne;rw[h j 0 a (by omega),if_neg hne,zm,zQ]
theorem sumN_app{f:Nat->Int}{m:Nat}:∀n:Nat,sumN m f+(sumN n fun c=>f (m+c))=sumN (m+n) f
 |0=>by
  show sumN m f+0=sumN m f;omega
 |n+1=>by
  show sumN m f+((sumN n fun c=>f (m+c))+f (m+n))=sumN (m+n) f+f (m+n);rw[<-sumN_app n];omega
def tb0(m:Nat)(L:Nat->Nat->Int):Tb:=⟨1,L,fun i=>i,fun c=>m+c⟩
noncomputable def V0(m:Nat)(L:Nat->Nat->Int):Nat->Vec:=fun k t=>if k < m then(if k=t then 1 else 0)else -L t (k - m)
def R0(L:Nat->Nat->Int):Nat->Vec:=fun c t=>L t c
theorem inv0:Inv m n (V0 m L) (R0 L) (tb0 m L):=by
 refine⟨(by decide:(0:Int) < 1),?_,?_⟩
 . rw[kS m _ fun k c hk hc=>by
    show(if k < m then(if k=c then(1:Int)else 0)else _)=_
    rw[if_pos hk]]
   rfl
 . intro c t hc ht
   rw[sumN_one (k:=t) ht fun i hi hne=>by
    show L i c*(if i < m then(if i=t then(1:Int)else 0)else _)=0
    rw[if_pos hi,if_neg hne,zm]]
   show L t c*(if t < m then(if t=t then(1:Int)else 0)else _)=1*(if c < n then -(if m+c < m then(if m+c=t then(1:Int)else 0)else -L t (m+c - m))else L t c);rw[if_pos ht,if_pos rfl,if_neg (by omega:¬m+c < m),Nat.add_sub_cancel_left]
   split<;>omega
theorem pm0:Pm m n (tb0 m L):=fun f=>sumN_app n
theorem lex_neg{u v:Int}(h:v.natAbs < M.natAbs)(hM:0 < M):(u < 0\/(u=0/\v < 0))↔M*u+v < 0:=by
 constructor
 . rintro(z|⟨z,y⟩)
   . have:M*u<=M* -1:=AA (by omega) (by omega)
     omega
   . rw[z];omega
 . intro z;rcases Int.lt_trichotomy u 0 with y|y|y
   . exact .inl y
   . subst y;exact .inr ⟨rfl,by omega⟩
   . have:M*1<=M*u:=AA (by omega) (by omega)
     omega
noncomputable def sol(m n:Nat)(L:Nat->Nat->Int)(y:Nat->Int)(b e:Int):Nat->Int:=
 fun k=>if k < m then(sumN n fun c=>L k c*y c)+b*L k n+e*L k (n+1)else y (k - m)
theorem sol_row(I:Inv m n (V0 m L) (R0 L) T)(P:Pm m n T)(y:Nat->Int)(b e:Int)(hi:i < m):
 T.bot*sol m n L y b e (T.sd i)=(sumN n fun c=>T.ln i c*sol m n L y b e (T.hd c))+b*T.ln i n+e*T.ln i (n+1):=by
 refine I.row (sol m n L y b e) b e (fun t ht=>?_) hi
 rw[P fun k=>sol m n L y b e k*V0 m L k t,<-sumN_app n,sumN_one (k:=t) ht fun k hk hne=>by
  show _*(if k < m then(if k=t then(1:Int)else 0)else _)=0
  rw[if_pos hk,if_neg hne,zm]]
 have e1:∀c,c < n->sol m n L y b e (m+c)*V0 m L (m+c) t= -1*(L t c*y c):=by
  intro c hc;show(if m+c < m then _ else y (m+c - m))*(if m+c < m then _ else -L t (m+c - m))=_;rw[if_neg (by omega),if_neg (by omega),Nat.add_sub_cancel_left]
  grind
 rw[sumN_congr e1,sumN_mul];show(if t < m then _ else _)*(if t < m then(if t=t then(1:Int)else 0)else _)+_=b*L t n+e*L t (n+1);rw[if_pos ht,if_pos ht,if_pos rfl];omega
def ls(n:Nat)(f:Nat->α):List α:=(List.range n).map f
theorem ls_len{f:Nat->α}:(ls n f).length=n:=by unfold ls;rw[yR,A3]
theorem ls_at{f:Nat->α}(h:i < n):(ls n f)[i]?=some (f i):=by
 unfold ls;rw[yW,List.getElem?_range h];rfl
theorem ls_congr{f g:Nat->α}(h:∀i,i < n->f i=g i):ls n f=ls n g:=List.map_congr_left fun i hi=>h i (zZ.1 hi)
theorem sG{f:Nat->α}{g:α->β}:(ls n f).map g=ls n fun i=>g (f i):=by
 unfold ls;rw[Aj];rfl
theorem xg{f:Nat->α}{g:Nat->β}{h:α->β->γ}:List.zipWith h (ls n f) (ls n g)=ls n fun i=>h (f i) (g i):=by
 unfold ls;rw[List.zipWith_map,List.zipWith_self]
theorem jy{f:Nat->α}{a:α}:(ls n f).set q a=ls n fun i=>if i=q then a else f i:=by
 refine List.ext_getElem? fun i=>?_;rw[List.getElem?_set,ls_len];by_cases hi:i < n
 . rw[ls_at hi,ls_at hi];by_cases e:q=i
   . subst e;rw[if_pos rfl,if_pos hi,if_pos rfl]
   . rw[if_neg e,if_neg fun z=>e z.symm]
 . have o:∀g:Nat->α,(ls n g)[i]?=none:=fun g=>Ar (by rw[ls_len];omega)
   rw[o,o];by_cases e:q=i
   . subst e;rw[if_pos rfl,if_neg hi]
   . rw[if_neg e]
theorem turned0(hi:i≠r)(h:sg (T.ln r q)*T.ln i q=0):((ls (n+2) (T.ln i)).map fun x=>x*((T.ln r q).natAbs:Int) / T.bot)=ls (n+2) ((piv T r q).ln i):=by
 rw[sG];refine ls_congr fun c hc=>?_;show _=if i=r then _ else if c=q then _ else T.num r q i c / T.bot;rw[if_neg hi];by_cases e:c=q
 . subst e;rw[if_pos rfl,h]
   have hz:T.ln i c=0:=by
    have:=y8 (T.ln r c);have h2:sg (T.ln r c)*(sg (T.ln r c)*T.ln i c)=0:=by rw[h,zm]
    rw[<-AI,this,Int.one_mul]at h2;exact h2
   rw[hz,zQ,Int.zero_ediv]
 . rw[if_neg e];unfold Tb.num;rw[h,zQ,Int.sub_zero]
theorem turned1(hi:i≠r):(List.zipWith (fun x y=>(x*((T.ln r q).natAbs:Int) - sg (T.ln r q)*T.ln i q*y) / T.bot) (ls (n+2) (T.ln i)) (ls (n+2) (T.ln r))).set q (sg (T.ln r q)*T.ln i q)=ls (n+2) ((piv T r q).ln i):=by
 rw[xg,jy];refine ls_congr fun c hc=>?_;show _=if i=r then _ else if c=q then _ else T.num r q i c / T.bot;rw[if_neg hi];rfl
theorem turnedR:((ls (n+2) (T.ln r)).map fun x=> -sg (T.ln r q)*x).set q (sg (T.ln r q)*T.bot)=ls (n+2) ((piv T r q).ln r):=by
 rw[sG,jy];refine ls_congr fun c hc=>?_;show _=if r=r then(if c=q then _ else _)else _;rw[if_pos rfl]
theorem piv_sides:(ls m T.sd).set r (T.hd q)=ls m (piv T r q).sd:=by
 rw[jy];rfl
theorem piv_heads:(ls n T.hd).set q (T.sd r)=ls n (piv T r q).hd:=by
 rw[jy];rfl
theorem Stl.next{k:Nat}(h:Stl m n k T)(hk:∀i,i < m->T.sd i < m->T.ln i k=0):Stl m n (k+1) T:=by
 intro c hc hn hh i hi hs;by_cases e:c=k
 . subst e;exact hk i hi hs
 . exact h c (by omega) hn hh i hi hs
theorem Stl.turn{k:Nat}{V:Nat->Vec}(I:Inv m n V R T)(h:Stl m n k T)(hr:r < m)(hk:k < n)(hs:T.sd r < m)(hp:T.ln r k≠0):Stl m n (k+1) (Wg.piv T r k):=by
 intro c hc hn hh i hi a;by_cases e:c=k
 . subst e;have:m<=if c=c then T.sd r else T.hd c:=hh;rw[if_pos rfl]at this;omega
 . exact Stl.piv I h hr hk hs hp c (by omega) hn hh i hi a
end Wg
namespace K46
open PySem L2 Mth Tre Wd Su Tw Fm
variable{D:TA}{ta:TE}{us:List Tr}{T:Wg.Tb}
theorem bT{f:Str}{pos:Pos}(hK:X.K=K)(he:PE X e ta)(hb:attributeBase e f X.env (eval e X.env)=eval e X.env):PE X (.Attribute e f pos) (tFld K ta f):=by
 subst hK;exact aI he hb
theorem dM{A B:Hp->Prop}(h:A H):cY σ H fun b H5=>if b=true then A H5 else B H5:=by
 show if true=true then A H else B H;rw[if_pos rfl];exact h
structure Tk (K:PySem.W.Frag) (C:Addr):Prop where
 cls:Cls K C
 nt:NoAttr K C "terms"
 ns:NoAttr K C "scales"
 nl:NoAttr K C "lines"
 nb:NoAttr K C "bottom"
 nd:NoAttr K C "sides"
 nh:NoAttr K C "heads"
structure TA where
 C:Addr
 a:Addr
 dx:Addr
 pt:Addr
 psc:Addr
 pss:Addr
 ph:Addr
noncomputable def flds(D:TA)(pl:Addr)(b:Int):List (Str×V):= [(Str.ofString "terms", .ref D.pt),(Str.ofString "scales", .ref D.psc),(Str.ofString "lines", .ref pl),(Str.ofString "bottom", .int b),(Str.ofString "sides", .ref D.pss),(Str.ofString "heads", .ref D.ph)]
def Rws(H:Hp)(D:TA)(ls:List V)(m:Nat)(f:Nat->List Int):Prop:=ls.length=m/\∀i,i < m->∃q,ls[i]?=some (.ref q)/\H q=some (.lst ((f i).map V.int))/\q≠D.pss/\q≠D.ph
structure Tab (D:TA) (m mm n:Nat) (scs:List Int) (us:List Tr) (ws:List V) (pl:Addr) (ls:List V) (T:Wg.Tb) (H:Hp):Prop where
 ob:H D.a=some (.ins D.C D.dx (flds D pl T.bot))
 tm:H D.pt=some (.lst ws)
 tt:TrsAt H ws us
 ul:us.length=n
 sc:H D.psc=some (.lst (scs.map V.int))
 sl:scs.length=mm
 li:H pl=some (.lst ls)
 ro:Rws H D ls m fun i=>Wg.ls (n+2) (T.ln i)
 sd:H D.pss=some (.lst (nv (Wg.ls m T.sd)))
 hd:H D.ph=some (.lst (nv (Wg.ls n T.hd)))
 n1:D.pss≠D.pt
 n2:D.pss≠D.psc
 n3:D.pss≠D.ph
 n4:D.pss≠pl
 n5:D.ph≠D.pt
 n6:D.ph≠D.psc
 n7:D.ph≠pl
 m64:m<=64
 n64:n<=64
theorem Rws.keep{ls:List V}{f:Nat->List Int}(k:∀q,q≠D.pss->q≠D.ph->∀xs,H q=some (.lst xs)->H' q=some (.lst xs))(h:Rws H D ls m f):Rws H' D ls m f:=by
 refine⟨h.1,fun i hi=>?_⟩;obtain⟨q,a,b,c,d⟩:=h.2 i hi;exact⟨q,a,k q c d _ b,c,d⟩
theorem Tab.same{ls:List V}(s:Same H H')(h:Tab D m mm n scs us ws pl ls T H):Tab D m mm n scs us ws pl ls T H':=
 ⟨s _ _ h.ob,s _ _ h.tm,h.tt.mono (Kd.of_same s),h.ul,s _ _ h.sc,h.sl,s _ _ h.li,h.ro.keep fun q _ _ xs e=>s _ _ e,s _ _ h.sd,s _ _ h.hd,h.n1,h.n2,h.n3,h.n4,h.n5,h.n6,h.n7,h.m64,h.n64⟩
theorem Tab.butT{ls:List V}(hT:H T0=some (.tbl ps))(b:ButT T0 H H')(h:Tab D m mm n scs us ws pl ls T H):Tab D m mm n scs us ws pl ls T H':=by
 have k:∀ {a:Addr} {o:HO},H a=some o->(∀p,o≠ .tbl p)->H' a=some o:=fun{a o} e q=>b _ _ (fun z=>by rw[z,hT]at e;exact q _ (z9 e).symm) e
 have c:∀ {a:Addr} {xs:List V},H a=some (.lst xs)->H' a=some (.lst xs):=fun e=>k e (by intro p z;cases z)
 have kd:Kd H H':=⟨fun a xs e=>k e (by intro p z;cases z),fun a xs e=>⟨xs,c e⟩⟩
 exact⟨k h.ob (by intro p z;cases z),c h.tm,h.tt.mono kd,h.ul,c h.sc,h.sl,c h.li,h.ro.keep fun q _ _ xs e=>c e,c h.sd,c h.hd,h.n1,h.n2,h.n3,h.n4,h.n5,h.n6,h.n7,h.m64,h.n64⟩
theorem fQ{f:Nat->Nat}(h:i < m):(nv (Wg.ls m f))[i]?=some (.int (f i:Nat)):=by
 unfold nv;rw[yW,Wg.ls_at h];rfl
theorem bf{f:Nat->Nat}:(nv (Wg.ls m f)).length=m:=by
 unfold nv;rw[yR,Wg.ls_len]
theorem c5{c:Nat}{f:Nat->Int}(h:c < n):((Wg.ls n f).map V.int)[c]?=some (.int (f c)):=by
 rw[yW,Wg.ls_at h];rfl
noncomputable def slk(m mm:Nat)(T:Wg.Tb):List Nat:=(List.range m).filter fun i=>decide (T.sd i < mm)
theorem slk_mem:i∈slk m mm T↔i < m/\T.sd i < mm:=by
 unfold slk;rw[zC,zZ,decide_eq_true_iff]
def ny:Sp:=fun vs H Q _=>∃(D:TA) (m mm n:Nat) (scs:List Int) (us:List Tr) (ws:List V) (pl:Addr) (ls:List V) (T:Wg.Tb) (k:Int),vs= [.ref D.a, .int k]/\Tk K D.C/\Tab D m mm n scs us ws pl ls T H/\Q (.bl (decide (k < (mm:Int)))) H
theorem yi:FnScope ["table","number"] ["table","number"] (af sIsl):= .of
theorem wV(F:Fun K "is_slack" "is_slack" sIsl f fd)(B:Blt mg):FnOk P w K mg base CX0 1 f fd ["table","number"] (ny (K:=K)):=by
 refine F.okb yi fun vs H Q E h=>?_;obtain⟨D,m,mm,n,scs,us,ws,pl,ls,T,k,rfl,hk,b,q⟩:=h;refine⟨rfl,fun c A outer s hr=>?_⟩;refine Y3 _ (ag (aD (gj km (pv 1) (aG ar rfl B.le PySem.boot_len (a7 (aI (pv 0) rfl) a9)) (aE _)))) ?_;refine Y3 _ rfl (Y9 _ rfl D.a D.C D.dx _ _ rfl b.ob hk.cls hk.ns rfl (Y5 D.psc _ rfl (.inl (SqL.of b.sc)) (Y5 k _ rfl rfl ?_)));rw[yR,b.sl];exact q
def iH:Sp:=fun vs H Q _=>∃(D:TA) (m mm n:Nat) (scs:List Int) (us:List Tr) (ws:List V) (pl:Addr) (ls:List V) (T:Wg.Tb),vs= [.ref D.a]/\Tk K D.C/\Tab D m mm n scs us ws pl ls T H/\∀l H',H l=none->Same H H'->H' l=some (.lst (nv (slk m mm T)))->Q (.ref l) H'
theorem yd:FnScope ["table"] ["table"] (af sSll):= .of
theorem wG(F:Fun K "slack_lines" "slack_lines" sSll f fd)(B:Blt mg)(zI:Cl P w K mg base 1 "is_slack" ["table","number"] (ny (K:=K))):
 FnOk P w K mg base CX0 2 f fd ["table"] (iH (K:=K)):=by
 refine F.okb yd fun vs H Q E h=>?_;refine hZq fun q_ e_=>?_;obtain⟨D,m,mm,n,scs,us,ws,pl,ls,T,rfl,hk,k,q⟩:=h;subst e_;refine⟨rfl,fun u A outer s hr=>?_⟩;have c:(["at","side","table"]:List Str).Nodup:=by decide +kernel
 refine Y3 _ (ag (aD (aY (NC:= ["at","side","table"]) (mp:= [none,none,some 0]) (g:=gTup K 2 (b9 (aM 0) (b9 (aM 1) gNil))) rfl (nO rfl B.en (a7 (aI (pv 0) rfl) a9)) (fun _ _ _ _ _=>ba (n:=2) rfl (aj (pgA 0 c) (aj (pgA 1 c) aQ)))
  (fun _ _ _ _ _=>cp (cC (ak zI hr (a7 (pv 2) (a7 (pv 1) a9))))) (fun _ _ _ _ _=>pv 0)))) ?_
 have r:(20000:Nat)<=sizeLine:=by decide +kernel
 have m64:=k.m64;refine ii (a:=D.pss) (xs:=nv (Wg.ls m T.sd)) (fun Q q=>Y9 _ rfl D.a D.C D.dx _ _ rfl k.ob hk.cls hk.nd rfl q) (SqL.of k.sd) fun L l=>?_;refine U8 (fun j acc H'=>Same H H'/\H' L=some (.lst acc)/\acc=nv ((List.range j).filter fun i=>decide (T.sd i < mm))) ⟨aa l,a8,rfl⟩ (fun j acc H' p=>SqL.of (p.1 _ _ k.sd)) ?_ ?_
 . rintro i v x acc H' hi _ ⟨e,b,rfl⟩ ex t;rw[bf]at hi;rw[fQ hi]at ex;cases ex;have d:=aa (o:= .tup [.int i, .int (T.sd i:Nat)]) t;refine O3 v _ rfl (SqT.of a8) rfl _ _ rfl _ _ rfl rfl ⟨ext2,?_⟩;refine Y3 _ rfl (U7 _ rfl D m mm n scs us ws pl ls T (U8 _ rfl hk (k.same (e.trans d)) (Y3 _ rfl ?_)))
   have al:(nv ((List.range i).filter fun i=>decide (T.sd i < mm))).length<=i:=by
    unfold nv;rw[yR];exact z7 (zu _ _) (by rw[A3];exact yV _)
   by_cases z:T.sd i < mm
   . rw[decide_eq_true (show((T.sd i:Nat):Int) < (mm:Int)by omega)]
     refine iteT ?_;refine Y3 _ rfl (CompN.mk (by rw[bf];exact hi) (by omega) (d _ _ b) ⟨az l (e.trans d),a8,?_⟩)
     rw[zH,zx];simp[nv,z]
   . rw[decide_eq_false (show¬((T.sd i:Nat):Int) < (mm:Int)by omega)]
     refine iteF ?_;refine CompS.mk (by rw[bf];exact hi) ⟨e.trans d,d _ _ b,?_⟩
     rw[zH,zx];simp[nv,z]
 . rintro acc H2 ⟨e,b,rfl⟩;rw[bf]at b;exact q L H2 l e b
noncomputable def tdF(xs ys:List Int)(q:Nat)(b0 B p r:Int):List Int:=
 if Wg.sg p*r=0 then xs.map fun x=>x*B / b0 else(List.zipWith (fun x y=>(x*B - Wg.sg p*r*y) / b0) xs ys).set q (Wg.sg p*r)
def qK:Sp:=fun vs H Q _=>∃(a C dx qo ql:Addr) (fs:List (Str×V)) (q:Nat) (b0 B p r:Int) (xs ys:List Int),vs= [.ref a, .ref qo, .ref ql, .int (q:Int), .int b0]/\Tk K C/\H a=some (.ins C dx fs)/\fs.lookup (Str.ofString "bottom")=some (.int B)/\
 H qo=some (.lst (xs.map V.int))/\H ql=some (.lst (ys.map V.int))/\xs.length=ys.length/\xs.length<=1000/\ys[q]?=some p/\xs[q]?=some r/\0 < b0/\Big b0/\Big B/\(∀x∈xs,Big x)/\(∀y∈ys,Big y)/\
 ∀l H',H l=none->Same H H'->H' l=some (.lst ((tdF xs ys q b0 B p r).map V.int))->Q (.ref l) H'
theorem scTud:FnScope ["table","other","line","column","bottom","many","told"] ["table","other","line","column","bottom"] (af sTud):= .of
theorem wz(F:Fun K "turned" "turned" sTud f fd)(B:Blt mg):FnOk P w K mg base CX0 1 f fd ["table","other","line","column","bottom"] (qK (K:=K)):=by
 refine F.okb scTud fun vs H Q E h=>?_;refine hZq fun q_ e_=>?_;obtain⟨a,C,dx,qo,ql,fs,q,b0,m,p,r,xs,ys,rfl,hC,ha,aB,ho,hl,a2,a0,hp,t,aA,au,bB,bx,by_,k⟩:=h;subst e_;refine⟨rfl,fun a1 A outer s hr=>?_⟩;have aC:(["number","table","bottom"]:List Str).Nodup:=by decide +kernel
 have v:(["number","beside","table","bottom","many"]:List Str).Nodup:=by decide +kernel
 refine Y3 _ (ac (psR 5 scTud.nd (cS (aw dA (aq am (pv 2) (pv 3) fun _ _=>rfl) ad (aE _)) (aq am (pv 1) (pv 3) fun _ _=>rfl) (br aW (aq am (pv 1) (pv 3) fun _ _=>rfl))))
  (ac (bS (aw fO (pv 5) ad (aE _))
   (ag (aD (aY (NC:= ["number","table","bottom"]) (mp:= [none,some 0,some 4]) rfl (bn (pv 1)) (fun _ _ _ _ _=>pgA 0 aC) (fun _ _ _ _ _=>aV)
    (fun _ _ _ _ _=>av cE (av aR (pv 0) (bT (K:=K) rfl (pv 1) rfl)) (pv 2))))) aS)
  (ac (cK (i:=6) (NC:= ["number","beside","table","bottom","many"]) (mp:= [none,none,some 0,some 4,some 5]) (g:=gTup K 2 (b9 (aM 0) (b9 (aM 1) gNil))) rfl scTud.nd rfl rfl rfl (eZ rfl B.zi (a7 (pv 1) (a7 (pv 2) a9)))
   (fun _ _ _ _ _=>ba (n:=2) rfl (aj (pgA 0 v) (aj (pgA 1 v) aQ))) (fun _ _ _ _ _=>aV)
   (fun _ _ _ _ _=>av cE (av lU (av aR (pv 0) (bT (K:=K) rfl (pv 2) rfl)) (av aR (pv 4) (pv 1))) (pv 3)))
  (ac (dZ (pv 5) (gY (pv 6) (pv 3) dq))
  (ag (aD (pv 6))))))) ?_
 have aT:(20000:Nat)<=sizeLine:=by decide +kernel
 have ep:atI (ys.map V.int) (q:Int)=some (.int p):=ax (by rw[yW,hp];rfl)
 have er:atI (xs.map V.int) (q:Int)=some (.int r):=ax (by rw[yW,t];rfl)
 have bR:Big r:=bx r (z5 t);have a3:q < xs.length:=(yZ.mp t).1;refine ck (fun σ' H'=>H=H'/\∃mm:Int,mm=Wg.sg p*r/\Big mm/\σ'= [some (.ref a),some (.ref qo),some (.ref ql),some (.int q),some (.int b0),some (.int mm),none]) ?_ fun nx ai=>?_
 . intro σ' H' z_;refine hZq fun q_ e_=>?_;obtain⟨rfl,mm,em,bm,rfl⟩:=z_;subst e_;refine O5 _ rfl rfl _ rfl ?_;by_cases z:mm=0
   . rw[z,decide_eq_true rfl];refine iteT ?_;refine J3 _ rfl qo rfl ⟨_,SqL.of ho⟩ (fun D l=>?_);refine bh (xs:=xs.map V.int) (fun j acc H3=>Same H H3/\H3 D=some (.lst acc)/\acc=((xs.take j).map fun x=>x*m / b0).map V.int) ⟨aa l,a8,rfl⟩ (fun j acc H3 d=>SqL.of (d.1 _ _ ho)) ?_ ?_
     . intro j x acc H3 hj ex z_;refine hZq fun q_ e_=>?_;obtain⟨s3,c,rfl⟩:=z_;rw[yW]at ex;obtain⟨y,u,rfl⟩:=za.mp ex;subst e_;have jl:j < xs.length:=(yZ.mp u).1;refine Y3 _ rfl (Y9 _ rfl a C dx fs _ rfl (s3 _ _ ha) hC.cls hC.nb aB (Y7 y m rfl rfl ⟨bx y (z5 u),bB⟩ (U6 _ rfl _ b0 rfl rfl ⟨aA,au⟩ ?_)));refine CompN.mk hj (by rw[yR,yR,zv];omega) c ⟨az l s3,a8,?_⟩
       rw[aH u];simp
     . rintro acc H3 ⟨s3,c,rfl⟩;rw[yR,zp]at c;refine k D H3 l s3 ?_;unfold tdF;rw[if_pos (by rw[<-em];exact z)]
       exact c
   . have z':¬V.int mm=V.int 0:=fun e=>z (V.int.inj e);rw[decide_eq_false z'];refine iteF (fk ?_);dsimp only;refine cH ?_;refine eK (xs:=xs.map V.int) (ys:=ys.map V.int) (a:=qo) (b:=ql) (by rw[yR,yR];omega) (fun Q q=>U5 _ rfl _ rfl q) (SqL.of ho) (SqL.of hl) fun D l=>?_
     refine U8 (fun j acc H3=>Same H H3/\H3 D=some (.lst acc)/\acc=((List.zipWith (fun x y=>(x*m - Wg.sg p*r*y) / b0) xs ys).take j).map V.int) ⟨aa l,a8,rfl⟩ (fun j acc H3 d=>⟨SqL.of (d.1 _ _ ho),SqL.of (d.1 _ _ hl)⟩) ?_ ?_
     . rintro j T x y acc H3 hj _ ⟨s3,c,rfl⟩ ex u nT;rw[yW]at ex u;refine hZq fun q_ e_=>?_;obtain⟨x',ex',rfl⟩:=za.mp ex;obtain⟨y',ao,rfl⟩:=za.mp u;subst e_;have jl:j < xs.length:=(yZ.mp ex').1;have sT:=aa (o:= .tup [.int x', .int y']) nT;refine O3 T _ rfl (SqT.of a8) rfl _ _ rfl _ _ rfl rfl ⟨ext2,?_⟩;refine dM ?_;refine Y3 _ rfl (Y9 _ rfl a C dx fs _ rfl (sT _ _ (s3 _ _ ha)) hC.cls hC.nb aB (Y7 x' m rfl rfl ⟨bx _ (z5 ex'),bB⟩ (Y3 _ rfl (U6 _ rfl mm y' rfl rfl ⟨bm,by_ _ (z5 ao)⟩ (Y5 _ _ rfl rfl (U6 _ rfl _ b0 rfl rfl ⟨aA,au⟩ ?_))))));refine CompN.mk hj (by rw[yR,zv,List.length_zipWith];omega) (sT _ _ c) ⟨az l (s3.trans sT),a8,?_⟩
       have ez:(List.zipWith (fun x y=>(x*m - Wg.sg p*r*y) / b0) xs ys)[j]?=some ((x'*m - Wg.sg p*r*y') / b0):=by rw[List.getElem?_zipWith,ex',ao]
       rw[aH ez,em];simp
     . rintro acc H3 ⟨s3,c,rfl⟩;have zl:(List.zipWith (fun x y=>(x*m - Wg.sg p*r*y) / b0) xs ys).length=xs.length:=by rw[List.length_zipWith];omega
       rw[yR,<-zl,zp]at c;refine ah ?_;refine Y3 _ rfl (O2 _ rfl _ rfl D _ (q:Int) q rfl rfl c (by rw[yR,zl];unfold ixN;rw[if_pos (by omega),if_pos (by omega)];simp) ?_)
       refine Y3 _ rfl ?_;refine k D _ l (az l s3) ?_;rw[a8];unfold tdF;rw[if_neg (by rw[<-em];exact z),<-em,List.map_set]
 refine Y3 _ rfl (O8 _ rfl ql _ _ _ rfl rfl (SqL.of hl) ep p 0 rfl rfl _ rfl ?_);by_cases d:0 < p
 . rw[decide_eq_true d];refine iteT ?_;refine O2 _ rfl _ rfl qo _ _ _ rfl rfl (SqL.of ho) er ?_;exact ai _ _ ⟨rfl,Y8 r (by unfold Wg.sg;rw[if_pos d];omega) bR rfl⟩
 . rw[decide_eq_false d];refine iteF ?_;refine O2 _ rfl _ rfl qo _ _ _ rfl rfl (SqL.of ho) er (Y3 r rfl ?_);refine ai _ _ ⟨rfl,Y8 (-r) (by unfold Wg.sg;rw[if_neg d];omega) ?_ rfl⟩
   unfold Big at*;rw[A4];exact bR
theorem t6{b c:Int}:putF (Str.ofString "bottom") (.int c) (flds D pl b)=flds D pl c:=by
 unfold flds putF;rw[if_neg (by decide +kernel)]
 unfold putF;rw[if_neg (by decide +kernel)]
 unfold putF;rw[if_neg (by decide +kernel)]
 unfold putF;rw[if_pos rfl]
theorem t5{ql:Addr}{b:Int}:putF (Str.ofString "lines") (.ref ql) (flds D pl b)=flds D ql b:=by
 unfold flds putF;rw[if_neg (by decide +kernel)]
 unfold putF;rw[if_neg (by decide +kernel)]
 unfold putF;rw[if_pos rfl]
theorem ua{f:Str}(h:tv σ H fun y H1=>ta σ H1 fun x H2=>∃a C dx fs,x= .ref a/\H2 a=some (.ins C dx fs)/\Cls K C/\NoAttr K C f/\fs.length < 1000/\(u Z) σ (upd H2 a (.ins C dx (putF f y fs)))):tSeq (sFld K ta tv f) u Z σ H:=h
theorem qh{g:TG}(h:te σ H fun x H1=>g x σ H1 (u Z)):tSeq (tAsg te g) u Z σ H:=h
def ButX(D:TA)(H H':Hp):Prop:=∀x o,x≠D.a->x≠D.pss->x≠D.ph->H x=some o->H' x=some o
theorem ButX.of_same(s:Same H H'):ButX D H H':=fun x o _ _ _ e=>s _ _ e
theorem ButX.trans(a:ButX D H H1)(b:ButX D H1 H2):ButX D H H2:=fun x o h1 h2 h3 e=>b x o h1 h2 h3 (a x o h1 h2 h3 e)
theorem kdX{ls:List V}(h:Tab D m mm n scs us ws pl ls T H)(b:ButX D H H')(h':∃xs,H' D.pss=some (.lst xs))(h'':∃xs,H' D.ph=some (.lst xs)):Kd H H':=by
 have ha:=h.ob;have h1:=h.sd;have h2:=h.hd;refine⟨fun x xs e=>b x _ (fun z=>by rw[z,ha]at e;cases e) (fun z=>by rw[z,h1]at e;cases e) (fun z=>by rw[z,h2]at e;cases e) e,fun x xs e=>?_⟩
 by_cases e1:x=D.pss
 . rw[e1];exact h'
 . by_cases a:x=D.ph
   . rw[a];exact h''
   . exact⟨xs,b x _ (fun z=>by rw[z,ha]at e;cases e) e1 a e⟩
theorem ButX.free{x:Addr}{ls:List V}(t:Tab D m mm n scs us ws pl ls T H')(b:ButX D H H')(h:H' x=none):H x=none:=by
 cases q:H x with
 |none=>rfl
 |some o=>
  have:=b x o (fun z=>by rw[z,t.ob]at h;cases h) (fun z=>by rw[z,t.sd]at h;cases h) (fun z=>by rw[z,t.hd]at h;cases h) q
  rw[this]at h;cases h
def k9:Sp:=fun vs H Q _=>∃(D:TA) (m mm n:Nat) (scs:List Int) (us:List Tr) (ws:List V) (pl:Addr) (ls:List V) (T:Wg.Tb) (r q:Nat),vs= [.ref D.a, .int (r:Int), .int (q:Int)]/\Tk K D.C/\Tab D m mm n scs us ws pl ls T H/\r < m/\q < n/\T.ln r q≠0/\0 < T.bot/\Big T.bot/\(∀i c,i < m->c < n+2->Big (T.ln i c))/\
 ∀pl' ls' H',H pl'=none->ButX D H H'->Tab D m mm n scs us ws pl' ls' (Wg.piv T r q) H'->Q .non H'
theorem scTur:FnScope ["table","at","column","line","sign","bottom"] ["table","at","column"] (af sTur):= .of
theorem wy(F:Fun K "turn" "turn" sTur f fd)(B:Blt mg)(zT:Cl P w K mg base 1 "turned" ["table","other","line","column","bottom"] (qK (K:=K))):
 FnOk P w K mg base CX0 2 f fd ["table","at","column"] (k9 (K:=K)):=by
 refine F.okb scTur fun vs H Q E h=>?_;refine hZq fun q_ e_=>?_;obtain⟨D,m,mm,n,scs,us,ws,pl,ls,T,r,q,rfl,hk,d,ao,bF,hp,b0,bb,bl,k⟩:=h;subst e_;refine⟨rfl,fun ek A outer s hr=>?_⟩;have dj:(["other","table","column","line","bottom"]:List Str).Nodup:=by decide +kernel
 have ea:(["number","sign"]:List Str).Nodup:=by decide +kernel
 refine Y3 _ (ac (psR 3 scTur.nd (aq am (aI (pv 0) rfl) (pv 1) fun _ _=>rfl))
  (ac (psR 4 scTur.nd (cS (aw dA (aq am (pv 3) (pv 2) fun _ _=>rfl) ad (aE _)) ad (br aW ad)))
  (ac (psR 5 scTur.nd (aI (pv 0) rfl))
  (ac (dz (pv 0) (aG io rfl B.ab ip (a7 (aq am (pv 3) (pv 2) fun _ _=>rfl) a9)) rfl)
  (ac (dz (pv 0) (aY (NC:= ["other","table","column","line","bottom"]) (mp:= [none,some 0,some 2,some 3,some 5]) rfl (bn (aI (pv 0) rfl)) (fun _ _ _ _ _=>pgA 0 dj) (fun _ _ _ _ _=>aV)
   (fun _ _ _ _ _=>ak zT hr (a7 (pv 1) (a7 (pv 0) (a7 (pv 3) (a7 (pv 2) (a7 (pv 4) a9))))))) rfl)
  (ac (dZ (aY (NC:= ["number","sign"]) (mp:= [none,some 4]) rfl (bn (pv 3)) (fun _ _ _ _ _=>pgA 0 ea) (fun _ _ _ _ _=>aV)
   (fun _ _ _ _ _=>av aR (br aW (pv 1)) (pv 0))) (gY (aI (pv 0) rfl) (pv 1) dq))
  (ac (dZ (av aR (pv 4) (pv 5)) (gY (aq am (aI (pv 0) rfl) (pv 1) fun _ _=>rfl) (pv 2) dq))
  (ag (dZ (aX (a7 (aq am (aI (pv 0) rfl) (pv 2) fun _ _=>rfl) (a7 (aq am (aI (pv 0) rfl) (pv 1) fun _ _=>rfl) a9))) (ba (n:=2) rfl (aj (gY (aI (pv 0) rfl) (pv 1) dq) (aj (gY (aI (pv 0) rfl) (pv 2) dq) aQ)))))))))))) ?_
 have ef:(20000:Nat)<=sizeLine:=by decide +kernel
 have m64:=d.m64;have n64:=d.n64;refine hZq fun q_ e_=>?_;obtain⟨ll,lr⟩:=d.ro;obtain⟨ql,d6,a5,eg,ej⟩:=lr r ao;subst e_;have cn:atI ((Wg.ls (n+2) (T.ln r)).map V.int) (q:Int)=some (.int (T.ln r q)):=ax (c5 (by omega))
 have fb:∀b pl,(flds D pl b).lookup (Str.ofString "bottom")=some (.int b):=fun b pl=>rfl;have fl:∀b pl,(flds D pl b).lookup (Str.ofString "lines")=some (.ref pl):=fun b pl=>rfl;have fs:∀b pl,(flds D pl b).lookup (Str.ofString "sides")=some (.ref D.pss):=fun b pl=>rfl;have fh:∀b pl,(flds D pl b).lookup (Str.ofString "heads")=some (.ref D.ph):=fun b pl=>rfl;have b6:Big (Wg.sg (T.ln r q)):=by unfold Wg.sg Big;split<;>decide +kernel
 have dI:=bl r q ao (by omega)
 have d2:(if T.ln r q < 0 then -T.ln r q else T.ln r q)=((T.ln r q).natAbs:Int):=by split<;>omega
 have bB:Big ((T.ln r q).natAbs:Int):=by unfold Big at *;rw[Int.natAbs_natCast];exact dI
 have dV:Big (-Wg.sg (T.ln r q)):=by unfold Big at *;rw[A4];exact b6
 refine O4 _ rfl D.a D.C D.dx _ _ rfl d.ob hk.cls hk.nl (fl _ _) _ rfl pl _ (r:Int) _ rfl rfl (SqL.of d.li) (ax d6) ?_;refine ah ?_;dsimp only;refine ck (fun σ' H'=>H=H'/\σ'= [some (.ref D.a),some (.int (r:Int)),some (.int (q:Int)),some (.ref ql),some (.int (Wg.sg (T.ln r q))),none]) ?_ fun nx bC=>?_
 . rintro σ' H' ⟨rfl,rfl⟩;refine Y9 _ rfl D.a D.C D.dx _ _ rfl d.ob hk.cls hk.nb (fb _ _) (O2 _ rfl _ rfl ql _ _ _ rfl rfl (SqL.of a5) cn (O2 _ rfl _ rfl D.a D.C D.dx _ rfl d.ob hk.cls hk.nb ⟨(by show 6 < 1000;decide),?_⟩))
   rw[d2,t6];obtain⟨B',eB⟩:∃B':Int,B'=((T.ln r q).natAbs:Int):=⟨_,rfl⟩;rw[<-eB]at bB ⊢;obtain⟨H1,au⟩:∃H1,H1=upd H D.a (.ins D.C D.dx (flds D pl B')):=⟨_,rfl⟩;rw[<-au];have aT:H1 D.a=some (.ins D.C D.dx (flds D pl B')):=by rw[au];exact a8
   have g:∀ {x:Addr} {xs:List V},H x=some (.lst xs)->H1 x=some (.lst xs):=fun{x xs} e=>by
    rw[au,ae (fun z=>by rw[z,d.ob]at e;cases e)]
    exact e
   try dsimp only
   refine ua ?_;refine bJ rfl ?_;refine Y9 _ rfl D.a D.C D.dx _ _ rfl aT hk.cls hk.nl (fl _ _) (Y8 pl rfl ⟨_,SqL.of (g d.li)⟩ (fun L nL=>?_));refine bh (xs:=ls) (fun j acc H'=>Same H1 H'/\H' L=some (.lst acc)/\acc.length=j/\∀i,i < j->∃z,acc[i]?=some (.ref z)/\H' z=some (.lst ((tdF (Wg.ls (n+2) (T.ln i)) (Wg.ls (n+2) (T.ln r)) q T.bot B' (T.ln r q) (T.ln i q)).map V.int))/\H1 z=none/\z≠L) ⟨aa nL,a8,rfl,fun i hi=>by omega⟩ (fun j acc H' p=>SqL.of (p.1 _ _ (g d.li))) ?_ ?_
   . intro j x acc H' hj ex z_;refine hZq fun q_ e_=>?_;obtain⟨s2,hL,al,hz⟩:=z_;rw[ll]at hj;obtain⟨qj,d5,d3,_,_⟩:=lr j hj;subst e_;rw[d5]at ex;cases ex;refine U5 _ rfl _ rfl (J5 _ rfl _ rfl _ rfl D.a D.C D.dx qj ql _ q T.bot (O6 B' (T.ln r q) (T.ln j q) (Wg.ls (n+2) (T.ln j)) (Wg.ls (n+2) (T.ln r)) rfl hk (s2 _ _ aT) (fb _ _) (s2 _ _ (g d3)) ⟨s2 _ _ (g a5),by rw[Wg.ls_len,Wg.ls_len],by rw[Wg.ls_len];omega,Wg.ls_at (by omega),Wg.ls_at (by omega),b0,bb,bB,?_,?_,fun l H3 nl s3 e3=>?_⟩))
     . intro x mx;obtain⟨c,hc,rfl⟩:=zr.mp mx;exact bl j c hj (zZ.mp hc)
     . intro x mx;obtain⟨c,hc,rfl⟩:=zr.mp mx;exact bl r c ao (zZ.mp hc)
     . refine CompN.mk (by rw[ll];exact hj) (by omega) (s3 _ _ hL) ⟨az nL (s2.trans s3),a8,by rw[zj,al];rfl,fun i hi=>?_⟩
       have bI:l≠L:=fun z=>by rw[z,hL]at nl;cases nl
       have dn:H1 l=none:=s2.free nl;rcases Nat.lt_or_ge i j with h|h
       . refine hZq fun q_ e_=>?_;obtain⟨z,a1,a2,a3,a4⟩:=hz i h;subst e_;exact U8 z (by rw[As (by omega)];exact a1) (by rw[ae a4];exact s3 _ _ a2) a3 a4
       . have e:i=j:=by omega
         subst e;exact U8 l (by rw[Aq (by omega),al];simp) (by rw[ae bI];exact e3) dn bI
   intro acc H2 z_;refine hZq fun q_ e_=>?_;obtain⟨s2,cm,al,hz⟩:=z_;subst e_;rw[ll]at al hz;have b8:=s2 _ _ aT;refine Y2 _ rfl D.a D.C D.dx _ ⟨rfl,b8,hk.cls,hk.nl,(by show 6 < 1000;decide),?_⟩
   rw[t5];obtain⟨H3,a6⟩:∃H3,H3=upd H2 D.a (.ins D.C D.dx (flds D L B')):=⟨_,rfl⟩;rw[<-a6];have c4:H3 D.a=some (.ins D.C D.dx (flds D L B')):=by rw[a6];exact a8
   have ai:∀ {x:Addr} {xs:List V},H2 x=some (.lst xs)->H3 x=some (.lst xs):=fun{x xs} e=>by
    rw[a6,ae (fun z=>by rw[z,b8]at e;cases e)]
    exact e
   have bg:=ai (s2 _ _ (g a5))
   try dsimp only
   refine qh ?_;refine bJ rfl ?_;refine J3 _ rfl ql rfl ⟨_,SqL.of bg⟩ (fun M nM=>?_);refine bh (xs:=(Wg.ls (n+2) (T.ln r)).map V.int) (fun j acc H'=>Same H3 H'/\H' M=some (.lst acc)/\acc=(((Wg.ls (n+2) (T.ln r)).take j).map fun x=> -Wg.sg (T.ln r q)*x).map V.int) ⟨aa nM,a8,rfl⟩ (fun j acc H' p=>SqL.of (p.1 _ _ bg)) ?_ ?_
   . intro j x b7 H' hj ex z_;refine hZq fun q_ e_=>?_;obtain⟨s4,hM,rfl⟩:=z_;rw[yW]at ex;obtain⟨y,ey,rfl⟩:=za.mp ex;subst e_;have jl:j < (Wg.ls (n+2) (T.ln r)).length:=(yZ.mp ey).1;have a0:=jl;rw[Wg.ls_len]at a0;rw[Wg.ls_at a0]at ey;cases ey;refine U5 _ rfl _ rfl (U6 _ rfl _ _ rfl rfl ⟨dV,bl r j ao a0⟩ ?_);refine CompN.mk hj (by rw[yR,yR,zv,Wg.ls_len];omega) hM ⟨az nM s4,a8,?_⟩
     rw[aH (Wg.ls_at a0)];simp
   rintro b7 H4 ⟨s4,hM,rfl⟩;rw[yR,zp]at hM;have dl:=s4 _ _ (ai cm);have bw:=s4 _ _ c4;have aC:∀ {N j:Nat},j < N->ixN N (j:Int)=some j:=fun{N j} h=>by unfold ixN;rw[if_pos (by omega),if_pos (by omega)];simp
   have c2:L≠M:=fun z=>by rw[<-z,ai cm]at nM;cases nM
   have bv:D.a≠L:=fun z=>by rw[<-z,aT]at nL;cases nL
   have ee:D.a≠M:=fun z=>by rw[<-z,c4]at nM;cases nM
   refine O4 _ rfl D.a D.C D.dx _ _ rfl bw hk.cls hk.nl (fl _ _) _ rfl L _ (r:Int) r rfl rfl dl (aC (by omega)) ?_
   have d0:(upd H4 L (.lst (acc.set r (.ref M)))) D.a=some (.ins D.C D.dx (flds D L B')):=by rw[ae bv];exact bw
   have ed:(upd H4 L (.lst (acc.set r (.ref M)))) M=some (.lst (((Wg.ls (n+2) (T.ln r)).map fun x=> -Wg.sg (T.ln r q)*x).map V.int)):=by rw[ae c2.symm];exact hM
   refine Y3 _ rfl (U6 _ rfl _ _ rfl rfl ⟨b6,bb⟩ (O4 _ rfl D.a D.C D.dx _ _ rfl d0 hk.cls hk.nl (fl _ _) _ rfl L _ (r:Int) _ rfl rfl (SqL.of a8) (ax (v:= .ref M) (by rw[List.getElem?_set_self (by omega)])) (U2 _ rfl M _ (q:Int) q rfl rfl ed (aC (by rw[yR,yR,Wg.ls_len];omega)) ?_)))
   rw[<-List.map_set,Wg.turnedR];obtain⟨H6,aB⟩:∃H6,H6=upd (upd H4 L (.lst (acc.set r (.ref M)))) M (.lst ((Wg.ls (n+2) ((Wg.piv T r q).ln r)).map V.int)):=⟨_,rfl⟩;rw[<-aB]
   have h6:∀ {x:Addr} {o:HO},x≠L->x≠M->H4 x=some o->H6 x=some o:=fun{x o} a b e=>by
    rw[aB,ae b,ae a];exact e
   have d4:H6 M=some (.lst ((Wg.ls (n+2) ((Wg.piv T r q).ln r)).map V.int)):=by rw[aB];exact a8
   have c8:H6 L=some (.lst (acc.set r (.ref M))):=by rw[aB,ae c2];exact a8
   have aA:=h6 bv ee bw
   have old:∀ {x:Addr} {o:HO},x≠D.a->H x=some o->H6 x=some o:=fun{x o} na e=>by
    have e1:H1 x=some o:=by rw[au,ae na];exact e
    have e3:H3 x=some o:=by rw[a6,ae na];exact s2 _ _ e1
    exact h6 (fun z=>by rw[<-z,e1]at nL;cases nL) (fun z=>by rw[<-z,e3]at nM;cases nM) (s4 _ _ e3)
   have u:∀ {x:Addr} {xs:List V},H x=some (.lst xs)->x≠D.a:=fun{x xs} e z=>by rw[z,d.ob]at e;cases e
   have bj:=old (u d.sd) d.sd;have bi:=old (u d.hd) d.hd;refine O4 _ rfl D.a D.C D.dx _ _ rfl aA hk.cls hk.nh (fh _ _) _ rfl D.ph _ (q:Int) _ rfl rfl (SqL.of bi) (ax (fQ bF)) (O4 _ rfl D.a D.C D.dx _ _ rfl aA hk.cls hk.nd (fs _ _) _ rfl D.pss _ (r:Int) _ rfl rfl (SqL.of bj) (ax (fQ ao)) ⟨two,fun t nt=>?_⟩);have sT:=aa (o:= .tup [.int (T.hd q:Nat), .int (T.sd r:Nat)]) nt;have d8:(upd (upd H6 t (.tup [.int (T.hd q:Nat), .int (T.sd r:Nat)])) D.pss (.lst ((nv (Wg.ls m T.sd)).set r (.int (T.hd q:Nat))))) D.a=some (.ins D.C D.dx (flds D L B')):=by rw[ae (u d.sd).symm];exact sT _ _ aA
   have d9:(upd (upd H6 t (.tup [.int (T.hd q:Nat), .int (T.sd r:Nat)])) D.pss (.lst ((nv (Wg.ls m T.sd)).set r (.int (T.hd q:Nat))))) D.ph=some (.lst (nv (Wg.ls n T.hd))):=by rw[ae d.n3.symm];exact sT _ _ bi
   refine Y7 t _ rfl (SqT.of a8) rfl (U3 _ _ rfl (O4 _ rfl D.a D.C D.dx _ _ rfl (sT _ _ aA) hk.cls hk.nd (fs _ _) _ rfl D.pss _ (r:Int) r rfl rfl (sT _ _ bj) (aC (by rw[bf];exact ao)) (U3 _ _ rfl (O4 _ rfl D.a D.C D.dx _ _ rfl d8 hk.cls hk.nh (fh _ _) _ rfl D.ph _ (q:Int) q rfl rfl d9 (aC (by rw[bf];exact bF)) ⟨rfl,?_⟩))))
   have e1:(nv (Wg.ls m T.sd)).set r (.int (T.hd q:Nat))=nv (Wg.ls m (Wg.piv T r q).sd):=by
    rw[<-Wg.piv_sides];unfold nv;rw[List.map_set]
   have e2:(nv (Wg.ls n T.hd)).set q (.int (T.sd r:Nat))=nv (Wg.ls n (Wg.piv T r q).hd):=by
    rw[<-Wg.piv_heads];unfold nv;rw[List.map_set]
   rw[e1,e2]
   have fin:∀ {x:Addr} {o:HO},x≠D.pss->x≠D.ph->H6 x=some o->(upd (upd (upd H6 t (.tup [.int (T.hd q:Nat), .int (T.sd r:Nat)])) D.pss (.lst (nv (Wg.ls m (Wg.piv T r q).sd)))) D.ph (.lst (nv (Wg.ls n (Wg.piv T r q).hd)))) x=some o:=fun{x o} a b e=>by
    rw[ae b,ae a];exact sT _ _ e
   have bx:ButX D H (upd (upd (upd H6 t (.tup [.int (T.hd q:Nat), .int (T.sd r:Nat)])) D.pss (.lst (nv (Wg.ls m (Wg.piv T r q).sd)))) D.ph (.lst (nv (Wg.ls n (Wg.piv T r q).hd)))):=fun x o na ns nh e=>fin ns nh (old na e);have bY:L≠D.pss:=fun z=>by rw[z,g d.sd]at nL;cases nL
   have c3:L≠D.ph:=fun z=>by rw[z,g d.hd]at nL;cases nL
   have bP:M≠D.pss:=fun z=>by rw[z,ai (s2 _ _ (g d.sd))]at nM;cases nM
   have bR:M≠D.ph:=fun z=>by rw[z,ai (s2 _ _ (g d.hd))]at nM;cases nM
   have cr:(upd (upd (upd H6 t (.tup [.int (T.hd q:Nat), .int (T.sd r:Nat)])) D.pss (.lst (nv (Wg.ls m (Wg.piv T r q).sd)))) D.ph (.lst (nv (Wg.ls n (Wg.piv T r q).hd)))) D.pss=some (.lst (nv (Wg.ls m (Wg.piv T r q).sd))):=by rw[ae d.n3];exact a8
   have eb:H L=none:=by rw[au,ae bv.symm]at nL;exact nL
   refine k L (acc.set r (.ref M)) _ eb bx ⟨?_,bx _ _ (u d.tm) d.n1.symm d.n5.symm d.tm,d.tt.mono (kdX d bx ⟨_,cr⟩ ⟨_,a8⟩),d.ul,bx _ _ (u d.sc) d.n2.symm d.n6.symm d.sc,d.sl,fin bY c3 c8,⟨by rw[List.length_set];exact al,fun i hi=>?_⟩,cr,a8,d.n1,d.n2,d.n3,bY.symm,d.n5,d.n6,c3.symm,m64,n64⟩
   . have:=fin (u d.sd).symm (u d.hd).symm aA;rw[this,eB];rfl
   . by_cases e:i=r
     . subst e;exact U8 M (by rw[List.getElem?_set_self (by omega)]) (fin bP bR d4) bP bR
     . refine hZq fun q_ e_=>?_;obtain⟨z,a1,a2,a3,a4⟩:=hz i hi;subst e_;have z3:=ai a2;have d7:z≠M:=fun y=>by rw[<-y,z3]at nM;cases nM
       have cI:z≠D.pss:=fun y=>by rw[y,g d.sd]at a3;cases a3
       have cd:z≠D.ph:=fun y=>by rw[y,g d.hd]at a3;cases a3
       refine U8 z (by rw[List.getElem?_set_ne (fun y=>e y.symm)];exact a1) ?_ cI cd
       have:=fin cI cd (h6 a4 d7 (s4 _ _ z3));rw[this];congr 3;unfold tdF;rw[eB];split
       . rename_i y;exact Wg.turned0 e y
       . exact Wg.turned1 e
 . refine Y3 _ rfl (O8 _ rfl ql _ _ _ rfl rfl (SqL.of a5) cn _ 0 rfl rfl _ rfl ?_);by_cases pp:0 < T.ln r q
   . rw[decide_eq_true pp];refine iteT ?_;refine bC _ _ ⟨rfl,?_⟩;unfold Wg.sg;rw[if_pos pp];rfl
   . rw[decide_eq_false pp];refine iteF ?_;refine Y3 1 rfl (bC _ _ ⟨rfl,?_⟩);unfold Wg.sg;rw[if_neg pp];rfl
end K46
namespace L2
open PySem PySem.Spec PyProof.Rows
noncomputable def RgV(r:Addr)(n:Nat):HO:= .ext fun h=>∃t u v,IsRange h r 0 n 1 t u v
theorem yp(x:∃t u v,IsRange h r 0 n 1 t u v):ObjOk P w H h r (RgV r n):=by
 obtain⟨t,u,v,e⟩:=x;exact⟨⟨t,u,v,e⟩,⟨_,e⟩,fun _ _ ⟨t',u',v',y⟩ k=>⟨t',u',v',k _ y⟩⟩
theorem lj:cj X (.type "range") (fun xs H Q=>∃n:Nat,xs= [.int n]/\∀r,H r=none->Q (.ref r) (upd H r (RgV r n))):=by
 intro pins s σ H xs us Q I r h;obtain⟨n,rfl,q⟩:=h;obtain⟨u,rfl,t,rfl⟩:=dh r;refine call_range_1 ?_;exact⟨.ref _,_,I.laid (t':=s.toks+1+1) (fun b ob e=>Heap.get?_push_of_some _ e) (yV _) (yp ⟨_,_,_,Heap.get?_push_size _ rfl⟩),rfl,q _ (I.hok.fresh (yV _))⟩
theorem mH(hc:X.calm=true):cj X (.type "list") (fun xs H Q=>∃(r:Addr) (n:Nat),xs= [.ref r]/\H r=some (RgV r n)/\n<=1000/\∀l,H l=none->Q (.ref l) (upd H l (.lst ((List.range n).map fun(i:Nat)=>V.int i)))):=by
 intro pins s σ H xs us Q I r h;obtain⟨c,n,rfl,hr,hn,q⟩:=h;obtain⟨u,rfl,f⟩:=dh r;cases f;obtain⟨⟨t,u,v,d⟩,_⟩:=(show ObjOk X.prog X.w H s.heap c (RgV c n)from I.hok c _ hr);refine call_list_range (n:=n) (I.ok.hd hc) d (small_one (by omega) (by omega) (by omega) (by omega)) (by rw[rangeSize_one];split<;>omega) (by omega) fun h' tk a c' hk p b=>?_
 have g:Vals ((List.range n).map fun(i:Nat)=>V.int i) a.toList:=by
  have key:∀(ys:List Value) (k:Nat),(∀j x,ys[j]?=some x->∃t,x=Value.int ((k+j:Nat):Int) t)->Vals ((List.range' k ys.length).map fun(i:Nat)=>V.int i) ys:=by
   intro ys
   induction ys with
   |nil=>intro k _;exact .nil
   |cons y ys m=>
    intro k hk;rw[zg,List.range'_succ,zh];obtain⟨t,e⟩:=hk 0 y rfl;refine .cons ⟨t,by rw[e];rfl⟩ (m (k+1) fun j x ex=>?_)
    obtain⟨t,e⟩:=hk (j+1) x ex;exact⟨t,by rw[e];congr 1;omega⟩
  have:=key a.toList 0 fun j x ex=>by
   obtain⟨t,e⟩:=b.2 j x (by rw[<-A5];exact ex)
   exact⟨t,by rw[e];congr 1;omega⟩
  rw[zX,b.1]at this;rw[List.range_eq_range'];exact this
 have z:(1000:Nat)<=sizeLine:=by decide +kernel
 refine Y5 (.ref _) _ (I.laid (t':=tk) (o:= .lst ((List.range n).map fun(i:Nat)=>V.int i)) hk (yV _) ⟨by rw[yR,A3];omega,U3 a.toList c' g (by rw[Array.toArray_toList];exact p)⟩) rfl (q _ (I.hok.fresh (yV _)))
open PySem.W
def uq:V->List V->Hp->VK->Prop:=fun x vs H Q=>∃(l:Addr) (ns:List Int) (k:Int) (j:Nat),x= .ref l/\vs= [.int k]/\H l=some (.lst (ns.map V.int))/\ns[j]?=some k/\(∀i,i < j->ns[i]?≠some k)/\Q (.int (j:Int)) H
theorem sR(r:Vals (ns.map V.int) its){k:Int}(hi:i < its.length):isInt k its[i]=decide (ns[i]?=some k):=by
 have hl:=r.length;rw[yR]at hl;obtain⟨y,a,b⟩:=r.get (i:=i) (x:= .int ns[i]) (by rw[yW,yS (by omega)];rfl)
 obtain⟨t,rfl⟩:=b;rw[yS hi]at a;rw[z9 a,yS (by omega)]
 simp only[isInt,Option.some.injEq];exact Az.mpr (by simp)
theorem oZ:MtM X "list.index" uq:=by
 intro pins s σ H x vs v us Q I u rv h;obtain⟨l,ns,k,j,rfl,rfl,m,f,o,q⟩:=h;cases u;obtain⟨b,rfl,t,rfl⟩:=dh rv;obtain⟨z,its,n,r,hl,e⟩:=I.lstM m;have hl:=r.length;rw[yR]at hl;have w:j < ns.length:=(yZ.mp f).1;have hz:its.length<=sizeLine:=by rw[yR]at z;omega
 rw[sizeLine_eq]at hz
 refine call_meets PySem.F.slot_list_index (Y3 _ e rfl) PySem.F.entry_list_index (PySem.F.args_list_index_2 _ _)
  (MeetsSeq.list_index l its.toArray n (.int k t) (isInt k) (fun y hy=>?_) j (by simp;omega) (by simp;omega) ?_ fun i hi c=>?_) ⟨e,(Y5 (.int j) H (I.tok _) ⟨_,rfl⟩ q)⟩
 . have a:y∈its:=by simpa using hy
   obtain⟨i,hi,rfl⟩:=Ac a;obtain⟨y,g,p⟩:=r.get (i:=i) (x:= .int ns[i]) (by rw[yW,yS (by omega)];rfl)
   obtain⟨t',rfl⟩:=p;rw[yS hi]at g;rw[z9 g];exact MeetsSeq.EqGives.int _ k t' t
 . have:=sR r (i:=j) (k:=k) (by omega)
   rw[decide_eq_true f]at this;simpa using this
 . have d:i < its.length:=by simpa using hi
   have:=sR r (i:=i) (k:=k) d;rw[decide_eq_false (o i c)]at this;simpa using this
noncomputable def RgW(r:Addr)(a n:Nat):HO:= .ext fun h=>∃t u v,IsRange h r a (a+n:Nat) 1 t u v
theorem vY{a:Nat}(x:∃t u v,IsRange h r a (a+n:Nat) 1 t u v):ObjOk P w H h r (RgW r a n):=by
 obtain⟨t,u,v,e⟩:=x;exact⟨⟨t,u,v,e⟩,⟨_,e⟩,fun _ _ ⟨t',u',v',y⟩ k=>⟨t',u',v',k _ y⟩⟩
theorem lh:cj X (.type "range") (fun xs H Q=>∃a n:Nat,xs= [.int a, .int (a+n:Nat)]/\∀r,H r=none->Q (.ref r) (upd H r (RgW r a n))):=by
 intro pins s σ H xs us Q I r h;obtain⟨a,n,rfl,q⟩:=h;obtain⟨c,d,rfl,⟨t,rfl⟩,⟨u,rfl⟩⟩:=Vals.two r;refine call_range_2 ?_;exact⟨.ref _,_,I.laid (t':=s.toks+1) (fun b ob e=>Heap.get?_push_of_some _ e) (yV _) (vY ⟨_,_,_,Heap.get?_push_size _ rfl⟩),rfl,q _ (I.hok.fresh (yV _))⟩
theorem mG(hc:X.calm=true):cj X (.type "list") (fun xs H Q=>∃(r:Addr) (a n:Nat),xs= [.ref r]/\H r=some (RgW r a n)/\n<=1000/\a<=1000/\∀l,H l=none->Q (.ref l) (upd H l (.lst ((List.range n).map fun(i:Nat)=>V.int ((a+i:Nat):Int))))):=by
 intro pins s σ H xs us Q I r h;obtain⟨d,a,n,rfl,hr,hn,ha,q⟩:=h;obtain⟨u,rfl,g⟩:=dh r;cases g;obtain⟨⟨t,u,v,f⟩,_⟩:=(show ObjOk X.prog X.w H s.heap d (RgW d a n)from I.hok d _ hr);refine call_list_range (n:=n) (I.ok.hd hc) f (small_one (by omega) (by omega) (by omega) (by omega)) (by rw[rangeSize_one];split<;>omega) (by omega) fun h' tk b c' hk z c=>?_
 have m:Vals ((List.range n).map fun(i:Nat)=>V.int ((a+i:Nat):Int)) b.toList:=by
  have key:∀(ys:List Value) (k:Nat),(∀j x,ys[j]?=some x->∃t,x=Value.int ((a+(k+j):Nat):Int) t)->Vals ((List.range' k ys.length).map fun(i:Nat)=>V.int ((a+i:Nat):Int)) ys:=by
   intro ys
   induction ys with
   |nil=>intro k _;exact .nil
   |cons y ys p=>
    intro k hk;rw[zg,List.range'_succ,zh];obtain⟨t,e⟩:=hk 0 y rfl;refine .cons ⟨t,by rw[e];rfl⟩ (p (k+1) fun j x ex=>?_)
    obtain⟨t,e⟩:=hk (j+1) x ex;exact⟨t,by rw[e];congr 1;omega⟩
  have:=key b.toList 0 fun j x ex=>by
   obtain⟨t,e⟩:=c.2 j x (by rw[<-A5];exact ex)
   exact⟨t,by rw[e];congr 1<;>omega⟩
  rw[zX,c.1]at this;rw[List.range_eq_range'];exact this
 have hL:(1000:Nat)<=sizeLine:=by decide +kernel
 refine Y5 (.ref _) _ (I.laid (t':=tk) (o:= .lst ((List.range n).map fun(i:Nat)=>V.int ((a+i:Nat):Int))) hk (yV _) ⟨by rw[yR,A3];omega,U3 b.toList c' m (by rw[Array.toArray_toList];exact z)⟩) rfl (q _ (I.hok.fresh (yV _)))
end L2
namespace Wg
theorem Rn.snoc{V R:Nat->Vec}{T:Nat->Tb}{r q:Nat->Nat}(H:Rn m n V R M T r q J)(S:Stp m n M (T J) r' q'):
 ∃T2 r2 q2,Rn m n V R M T2 r2 q2 (J+1)/\T2 (J+1)=piv (T J) r' q':=by
 refine⟨fun j=>if j<=J then T j else piv (T J) r' q',U3 (fun j=>if j < J then r j else r') (fun j=>if j < J then q j else q') ⟨?_,?_,?_,?_⟩ ?_⟩
 . show Inv m n V R (if 0<=J then T 0 else _);rw[if_pos (by omega)]
   exact H.inv
 . show Pm m n (if 0<=J then T 0 else _);rw[if_pos (by omega)]
   exact H.pm
 . intro j a;show Stp m n M (if j<=J then T j else _) (if j < J then r j else r') (if j < J then q j else q');rw[if_pos (by omega)]
   by_cases h:j < J
   . rw[if_pos h,if_pos h];exact H.st j h
   . have e:j=J:=by omega
     subst e;rw[if_neg h,if_neg h];exact S
 . intro j a;show(if j+1<=J then T (j+1)else _)=piv (if j<=J then T j else _) (if j < J then r j else r') (if j < J then q j else q');rw[if_pos (by omega:j<=J)]
   by_cases h:j < J
   . rw[if_pos h,if_pos h,if_pos (by omega)]
     exact H.nx j h
   . have e:j=J:=by omega
     subst e;rw[if_neg h,if_neg h,if_neg (by omega)]
 . show(if J+1<=J then _ else _)=_;rw[if_neg (by omega)]
structure Sz (m n:Nat) (L:Nat->Nat->Int) (M:Nat):Prop where
 le:∀i c,i < m->c < n+2->(L i c).natAbs<=M
 one:1<=M
variable{M:Nat}
theorem Sz.V(h:Sz m n L M):∀k t,k < m+n->t < m->(V0 m L k t).natAbs<=M:=by
 intro k t hk ht;unfold V0;have:=h.one;by_cases e:k < m
 . rw[if_pos e];split
   . show 1<=M;exact this
   . exact zc _
 . rw[if_neg e,A4];exact h.le t (k - m) ht (by omega)
noncomputable def cut(m n:Nat)(V:Nat->Vec):Nat->Vec:=fun k t=>if k < m+n then V k t else 0
theorem Inv.cut{m n:Nat}{V R:Nat->Vec}{T:Tb}(I:Inv m n V R T)(P:Pm m n T):Inv m n (Wg.cut m n V) R T:=by
 refine⟨I.pos,?_,fun c t hc ht=>?_⟩
 . rw[<-I.det];congr 1;refine det_congr m fun k c hk hc=>?_;exact if_pos (P.sd_lt hk)
 . have e:Tb.W T (Wg.cut m n V) R n c t=Tb.W T V R n c t:=by
    unfold Tb.W;split
    . rename_i h;show -(if T.hd c < m+n then V (T.hd c) t else 0)=_;rw[if_pos (P.hd_lt h)]
    . rfl
   rw[e,<-I.ln c t hc ht];refine sumN_congr fun i hi=>?_;show T.ln i c*(if T.sd i < m+n then V (T.sd i) t else 0)=_;rw[if_pos (P.sd_lt hi)]
theorem Sz.bounds{T:Tb}(h:Sz m n L M)(I:Inv m n (V0 m L) (R0 L) T)(P:Pm m n T):T.bot.natAbs<=fac m*M^m/\∀i c,i < m->c < n+2->(T.ln i c).natAbs<=fac m*M^m:=by
 have a:∀k t,t < m->(Wg.cut m n (V0 m L) k t).natAbs<=M:=by
  intro k t ht;unfold Wg.cut;split
  . rename_i e;exact h.V k t e ht
  . exact zc _
 refine⟨(I.cut P).bot_le a,fun i c hi hc=>(I.cut P).ln_le a (fun c t hc ht=>?_) hi hc⟩;exact h.le t c ht hc
end Wg
namespace K46
open PySem L2 Mth Tre Wd Su Tw Fm
structure FunC (K:PySem.W.Frag) (x qual:Str) (st:Stmt) (f:Addr) (fd:FuncData) (c0:Addr):Prop where
 ex:∃(oc:Value) (od:Option Addr) (kV doc pm:Value) (an:Option Addr) (ct:Value) (osl:Array (Option Value)),
  fd=PySem.W.fnOf x qual (bc st) (aP st) (af st) .none kV doc pm an (.ref c0) ct/\K.lookup f=some ⟨oc,od, .func fd,osl⟩/\PySem.W.codeIn K (.ref c0) qual=true
noncomputable def yE:Pos:=match aP sLby with
 | [.Return (some (.Call _ _ [⟨_, .Lambda _ _ _ pos,_⟩,_] _)) _]=>pos
 |_=>⟨0,0,0,0⟩
abbrev lbQ:Str:=(Str.ofString "least_by"++".<locals>.")++"<lambda>"
abbrev Lm(T0:Addr)(H:Hp):Prop:=Lam T0 yE lbQ H
theorem sZ{D:TA}:putF (Str.ofString "heads") (.ref D.ph) (putF (Str.ofString "sides") (.ref D.pss) (putF (Str.ofString "bottom") (.int 1) (putF (Str.ofString "lines") (.ref pl) (putF (Str.ofString "scales") (.ref D.psc) (putF (Str.ofString "terms") (.ref D.pt) [])))))=flds D pl 1:=by
 have e:∀(f:Str) (v:V),putF f v []= [(f,v)]:=fun f v=>rfl;have c:∀(f g:Str) (v x:V) (r:List (Str×V)),g≠f->putF f v ((g,x)::r)=(g,x)::putF f v r:=fun f g v x r h=>by unfold putF;rw[if_neg h];cases r<;>rfl
 unfold flds
 repeat (first|rw[e]|rw[c _ _ _ _ _ (by decide +kernel)])
theorem sJ(f:Str)(v:V):∀fs:List (Str×V),(putF f v fs).length<=fs.length+1
 | []=>yV _
 |(g,x)::r=>by
  unfold putF;split
  . simp
  . have:=sJ f v r;simp only[zg];omega
def n9(T0:Addr):Sp:=fun vs H Q _=>∃(a b:Addr) (ns:List Int) (ps:List Nat),vs= [.ref a, .ref b]/\SqL K H a (ns.map V.int)/\SqL K H b (nv ps)/\(∀p∈ps,p < ns.length)/\Lm T0 H/\
 (ps= []->∀H',ButT T0 H H'->Lm T0 H'->Q .non H')/\∀p∈ps,(∀r∈ps,ns.getD p 0<=ns.getD r 0)->∀H',ButT T0 H H'->Lm T0 H'->Q (.int (p:Int)) H'
theorem yg:FnScope ["numbers","places"] ["numbers","places"] (af sLby):= .of
theorem wS(F:FunC K "least_by" "least_by" sLby f fd c0)(B:Blt mg)(C:PySem.W.codeHdIn K c0 T0=true)(hB:base.BuiltinsAt mg T0):FnOk P w K mg base CX0 2 f fd ["numbers","places"] (n9 (K:=K) T0):=by
 obtain⟨l,k,kV,j,pm,an,ct,i,rfl,g,c⟩:=F.ex;refine vJ g c yg (fun vs H Q E h=>?_) fun A outer s H vs Q E hr h=>?_
 . obtain⟨a,b,ns,ps,rfl,_⟩:=h;rfl
 obtain⟨a,b,ns,ps,rfl,ha,hb,d,e,h1,h2⟩:=h
 have hk:PSs (cxOf CX0 P w K mg base ["numbers","places"] "least_by" (af sLby) f (.ref c0) A outer s H E).nox (aP sLby) _:=
  ag (aD (rT rfl hr rfl rfl (Or.inl rfl) rfl C hB rfl B.mi))
 exact⟨_,hk.nox,a,b,ns,ps,rfl,rfl,ha,hb,d,e,h1,h2⟩
def lN(C:Addr):Sp:=fun vs H Q _=>∃(a dx pt psc pl:Addr) (m n:Nat) (scs:List Int) (us:List Tr) (ws ls:List V) (L:Nat->Nat->Int),vs= [.ref a, .ref pt, .ref psc, .ref pl]/\Tk K C/\H a=some (.ins C dx [])/\H pt=some (.lst ws)/\TrsAt H ws us/\us.length=n/\H psc=some (.lst (scs.map V.int))/\scs.length=m/\H pl=some (.lst ls)/\
 (ls.length=m/\∀i,i < m->∃q,ls[i]?=some (.ref q)/\H q=some (.lst ((Wg.ls (n+2) (L i)).map V.int)))/\m<=64/\n<=64/\
 ∀(D:TA) (H':Hp),D.a=a->D.C=C->But1 a H H'->Tab D m m n scs us ws pl ls (Wg.tb0 m L) H'->H D.pss=none->H D.ph=none->Q .non H'
theorem vW:FnScope ["self","terms","scales","lines"] ["self","terms","scales","lines"] (af iJ):= .of
theorem uB{C:Addr}(F:Fun K "__init__" "Table.__init__" iJ f fd)(B:Blt mg):FnOk P w K mg base CX0 1 f fd ["self","terms","scales","lines"] (lN (K:=K) C):=by
 refine F.okb vW fun vs H Q E h=>?_;refine hZq fun q_ e_=>?_;obtain⟨a,dx,pt,psc,pl,m,n,scs,us,ws,ls,L,rfl,hk,ha,u,a2,ul,g,sl,ao,a5,m64,n64,k⟩:=h;subst e_;refine⟨rfl,fun bj A outer s hr=>?_⟩
 refine Y3 _ (ac (dz (pv 0) (pv 1) rfl) (ac (dz (pv 0) (pv 2) rfl) (ac (dz (pv 0) (pv 3) rfl) (ac (dz (pv 0) ad rfl)
  (ac (dz (pv 0) (bO (mH rfl) rfl B.li PyProof.Rows.boot_list (a7 (bO lj rfl B.ra PyProof.Rows.boot_range (a7 (aG ar rfl B.le PySem.boot_len (a7 (pv 2) a9)) a9)) a9)) rfl)
  (ag (dz (pv 0) (bO (mG rfl) rfl B.li PyProof.Rows.boot_list (a7 (bO lh rfl B.ra PyProof.Rows.boot_range (a7 (aG ar rfl B.le PySem.boot_len (a7 (pv 2) a9)) (a7 (av c9 (aG ar rfl B.le PySem.boot_len (a7 (pv 2) a9)) (aG ar rfl B.le PySem.boot_len (a7 (pv 1) a9))) a9))) a9)) rfl))))))) ?_
 have wl:=a2.len;have j:∀ {x:Addr} {xs:List V},H x=some (.lst xs)->x≠a:=fun{x xs} e z=>by rw[z,ha]at e;cases e
 refine O2 _ rfl _ rfl a C dx _ rfl ha hk.cls hk.nt ⟨(by show 0 < 1000;decide),?_⟩
 refine O2 _ rfl _ rfl a C dx _ rfl a8 hk.cls hk.ns ⟨(by show 1 < 1000;decide),?_⟩
 refine O2 _ rfl _ rfl a C dx _ rfl a8 hk.cls hk.nl ⟨(by show 2 < 1000;decide),?_⟩
 refine Y2 _ rfl a C dx _ ⟨rfl,a8,hk.cls,hk.nb,(by show 3 < 1000;decide),?_⟩
 rw[j5,j5,j5];obtain⟨b,aT⟩:∃b,b=putF (Str.ofString "bottom") (.int 1) (putF (Str.ofString "lines") (.ref pl) (putF (Str.ofString "scales") (.ref psc) (putF (Str.ofString "terms") (.ref pt) []))):=⟨_,rfl⟩;rw[<-aT];have l4:b.length=4:=by rw[aT];rfl
 have o4:∀ {x:Addr} {xs:List V},H x=some (.lst xs)->(upd H a (.ins C dx b)) x=some (.lst xs):=fun{x xs} e=>by rw[ae (j e)];exact e
 refine U9 _ rfl psc _ rfl (.inl (SqL.of (o4 g))) (Y3 m (by rw[yR,sl]) (fun r nr=>?_))
 have a3:a≠r:=fun z=>by rw[<-z,a8]at nr;cases nr
 refine Y7 r m rfl a8 (by omega) (fun ps aA=>?_)
 have bi:r≠ps:=fun z=>by rw[<-z,a8]at aA;cases aA
 have t:(upd H a (.ins C dx b)) ps=none:=by rw[ae bi.symm]at aA;exact aA
 have au:a≠ps:=fun z=>by rw[<-z,a8]at t;cases t
 refine Y2 _ rfl a C dx _ ⟨rfl,by rw[ae au,ae a3];exact a8,hk.cls,hk.nd,by rw[l4];decide,?_⟩
 obtain⟨H5,aB⟩:∃H5,H5=upd (upd (upd (upd H a (.ins C dx b)) r (RgV r m)) ps (.lst ((List.range m).map fun(i:Nat)=>V.int i))) a (.ins C dx (putF (Str.ofString "sides") (.ref ps) b)):=⟨_,rfl⟩;rw[<-aB];have a0:H5 a=some (.ins C dx (putF (Str.ofString "sides") (.ref ps) b)):=by rw[aB];exact a8
 have bb:H r=none:=by rw[ae a3.symm]at nr;exact nr
 have d:H ps=none:=by rw[ae au.symm]at t;exact t
 have o5:∀ {x:Addr} {o:HO},x≠a->H x=some o->H5 x=some o:=fun{x o} na e=>by
  rw[aB,ae na,ae (fun z=>by rw[z,d]at e;cases e),ae (fun z=>by rw[z,bb]at e;cases e),ae na]
  exact e
 have ai:H5 ps=some (.lst ((List.range m).map fun(i:Nat)=>V.int i)):=by rw[aB,ae au.symm];exact a8
 refine U9 _ rfl psc _ rfl (.inl (SqL.of (o5 (j g) g))) (U9 _ rfl psc _ rfl (.inl (SqL.of (o5 (j g) g))) (U9 _ rfl pt _ rfl (.inl (SqL.of (o5 (j u) u))) (Y5 _ _ rfl rfl (U3 m n ?_ (fun r2 v=>?_)))))
 . rw[yR,sl,wl,ul];simp
 refine U4 r2 m n rfl a8 (by omega) (by omega) (fun ph aC=>?_)
 have bg:r2≠ph:=fun z=>by rw[<-z,a8]at aC;cases aC
 have c:H5 ph=none:=by rw[ae bg.symm]at aC;exact aC
 have a1:a≠ph:=fun z=>by rw[<-z,a0]at c;cases c
 have a4:a≠r2:=fun z=>by rw[<-z,a0]at v;cases v
 have a6:ps≠ph:=fun z=>by rw[<-z,ai]at c;cases c
 have bv:ps≠r2:=fun z=>by rw[<-z,ai]at v;cases v
 refine Y2 _ rfl a C dx _ ⟨rfl,by rw[ae a1,ae a4];exact a0,hk.cls,hk.nh,?_,?_⟩
 . have:=sJ (Str.ofString "sides") (.ref ps) b;rw[l4]at this;omega
 have o7:∀ {x:Addr} {o:HO},x≠a->H5 x=some o->(upd (upd (upd H5 r2 (RgW r2 m n)) ph (.lst ((List.range n).map fun(i:Nat)=>V.int ((m+i:Nat):Int)))) a (.ins C dx (putF (Str.ofString "heads") (.ref ph) (putF (Str.ofString "sides") (.ref ps) b)))) x=some o:=fun{x o} na e=>by
  rw[ae na,ae (fun z=>by rw[z,c]at e;cases e),ae (fun z=>by rw[z,v]at e;cases e)]
  exact e
 have p:H ph=none:=by
  cases q:H ph with
  |none=>rfl
  |some o=>rw[o5 a1.symm q]at c;cases c
 have b1:But1 a H (upd (upd (upd H5 r2 (RgW r2 m n)) ph (.lst ((List.range n).map fun(i:Nat)=>V.int ((m+i:Nat):Int)))) a (.ins C dx (putF (Str.ofString "heads") (.ref ph) (putF (Str.ofString "sides") (.ref ps) b)))):=fun x o na e=>o7 na (o5 na e)
 have kd:Kd H (upd (upd (upd H5 r2 (RgW r2 m n)) ph (.lst ((List.range n).map fun(i:Nat)=>V.int ((m+i:Nat):Int)))) a (.ins C dx (putF (Str.ofString "heads") (.ref ph) (putF (Str.ofString "sides") (.ref ps) b)))):=by
  refine⟨fun x xs e=>b1 x _ (fun z=>by rw[z,ha]at e;cases e) e,fun x xs e=>⟨xs,b1 x _ (j e) e⟩⟩
 have l:∀ {x y:Addr} {o:HO},H x=some o->H y=none->y≠x:=fun{x y o} e n z=>by rw[z,e]at n;cases n
 refine k ⟨C,a,dx,pt,psc,ps,ph⟩ _ rfl rfl b1 ⟨?_,b1 _ _ (j u) u,a2.mono kd,ul,b1 _ _ (j g) g,sl,b1 _ _ (j ao) ao,⟨a5.1,fun i hi=>?_⟩,?_,?_,l u d,l g d,a6,l ao d,l u p,l g p,l ao p,m64,n64⟩ d p
 . rw[a8,aT];exact congrArg (fun z=>some (HO.ins C dx z)) (sZ (D:=⟨C,a,dx,pt,psc,ps,ph⟩))
 . obtain⟨q,e1,e2⟩:=a5.2 i hi;exact U8 q e1 (b1 _ _ (j e2) e2) ((l e2 d).symm) ((l e2 p).symm)
 . have e:(List.range m).map (fun(i:Nat)=>V.int i)=nv (Wg.ls m (Wg.tb0 m L).sd):=by
    unfold nv Wg.ls;rw[Aj];rfl
   rw[<-e];exact o7 au.symm ai
 . have e:(List.range n).map (fun(i:Nat)=>V.int ((m+i:Nat):Int))=nv (Wg.ls n (Wg.tb0 m L).hd):=by
    unfold nv Wg.ls;rw[Aj];rfl
   rw[<-e,ae a1.symm];exact a8
theorem cD{l:Expr}(hK:X.K=K)(h:PE X l tl):PI X tg l (oh K tl):=by
 subst hK;exact bn h
def lim:Nat:=2^2600
structure Wb (m n:Nat) (L:Nat->Nat->Int) (scs:List Int) (C:Nat):Prop where
 ex:∃M,Wg.Sz m n L M/\Wg.fac m*M^m<=C
 sc:∀s∈scs,0 < s/\s.natAbs<=C
 le:1<=C
 big:C < lim
structure Okt (m n:Nat) (L:Nat->Nat->Int) (T:Wg.Tb):Prop where
 inv:Wg.Inv m n (Wg.V0 m L) (Wg.R0 L) T
 pm:Wg.Pm m n T
 st:Wg.Stl m n n T
theorem Wb.bnd{T:Wg.Tb}(h:Wb m n L scs C)(I:Wg.Inv m n (Wg.V0 m L) (Wg.R0 L) T)(P:Wg.Pm m n T):T.bot.natAbs<=C/\∀i c,i < m->c < n+2->(T.ln i c).natAbs<=C:=by
 obtain⟨M,h1,h2⟩:=h.ex;obtain⟨a,b⟩:=h1.bounds I P;exact⟨z7 a h2,fun i c hi hc=>z7 (b i c hi hc) h2⟩
theorem bN{x:Int}(h:x.natAbs<=C)(hb:C < lim):Big x:=
 zk h (ze hb (zE (by decide) (by decide)))
def qT:Sp:=fun vs H Q _=>∃(D:TA) (m n C:Nat) (scs:List Int) (us:List Tr) (ws:List V) (pl:Addr) (ls:List V) (L:Nat->Nat->Int),vs= [.ref D.a]/\Tk K D.C/\Tab D m m n scs us ws pl ls (Wg.tb0 m L) H/\Wb m n L scs C/\
 ∀pl' ls' T H',(pl'=pl\/H pl'=none)->ButX D H H'->Tab D m m n scs us ws pl' ls' T H'->Okt m n L T->Q .non H'
theorem scSet:FnScope ["table","column","hanging"] ["table"] (af sSet):= .of
theorem wI(F:Fun K "settle" "settle" sSet f fd)(B:Blt mg)(zS:Cl P w K mg base 2 "slack_lines" ["table"] (iH (K:=K)))(zT:Cl P w K mg base 2 "turn" ["table","at","column"] (k9 (K:=K))):
 FnOk P w K mg base CX0 3 f fd ["table"] (qT (K:=K)):=by
 refine F.okb scSet fun vs H Q E h=>?_;refine hZq fun q_ e_=>?_;obtain⟨D,m,n,C,scs,us,ws,pl,ls,L,rfl,hk,hT,hW,k⟩:=h;subst e_;refine⟨rfl,fun a1 A outer s hr=>?_⟩;have aT:(["at","table","column"]:List Str).Nodup:=by decide +kernel
 refine Y3 _ (ag (bV PassesOwn.never rfl (cB rfl B.ra (a7 (aG ar rfl B.le PySem.boot_len (a7 (aI (pv 0) rfl) a9)) a9)) (dL (i:=1) scSet.nd rfl (Or.inr rfl))
  (ac (cK (i:=2) (NC:= ["at","table","column"]) (mp:= [none,some 0,some 1]) rfl scSet.nd rfl rfl rfl (cD (K:=K) rfl (ak zS hr (a7 (pv 0) a9)))
   (fun _ _ _ _ _=>pgA 0 aT) (fun _ _ _ _ _=>cp (aw iM (aq (r:=rIxL K) am (aq (r:=rIxL K) am (bT (K:=K) rfl (pv 1) rfl) (pv 0) fun _ _=>rfl) (pv 2) fun _ _=>rfl) ad (aE _))) (fun _ _ _ _ _=>pv 0))
  (ag (bS (rK (pv 2) (by intro _;rfl)) (ag (bA (ak zT hr (a7 (pv 0) (a7 (aq am (pv 2) ad fun _ _=>rfl) (a7 (pv 1) a9)))))) aS))))) ?_
 have a0:(20000:Nat)<=sizeLine:=by decide +kernel
 have fl:∀b pl,(flds D pl b).lookup (Str.ofString "lines")=some (.ref pl):=fun b pl=>rfl;have wl:=hT.tt.len;have m64:=hT.m64;have n64:=hT.n64;have ul:=hT.ul;refine Y9 _ rfl D.a D.C D.dx _ _ rfl hT.ob hk.cls hk.nt rfl (Y5 D.pt _ rfl (.inl (SqL.of hT.tm)) (U8 (ws.length:Int) rfl (by omega) (by omega) ?_))
 refine fH (n:=ws.length) (fun i σ H'=>(∃v1 v2,σ= [some (.ref D.a),v1,v2])/\∃pl' ls' T',(pl'=pl\/H pl'=none)/\ButX D H H'/\Tab D m m n scs us ws pl' ls' T' H'/\Wg.Inv m n (Wg.V0 m L) (Wg.R0 L) T'/\Wg.Pm m n T'/\Wg.Stl m n i T')
  ⟨(Y4 none none rfl),U4 pl ls _ (.inl rfl) (fun x o _ _ _ e=>e) hT Wg.inv0 ⟨Wg.pm0,fun c hc=>absurd hc (AH _)⟩⟩ ?_ ?_
 . intro i σ H' hi z_;refine hZq fun q_ e_=>?_;obtain⟨⟨v1,v2,rfl⟩,pl',ls',T',np,bx,tb,I,Pm,St⟩:=z_;subst e_;rw[Ax];have g:i < n:=by omega
   obtain⟨bb,bl⟩:=hW.bnd I Pm;refine ah ?_;dsimp only;refine cH ?_;refine cA rfl ?_;refine U7 _ rfl D m m n scs us ws pl' ls' T' ⟨rfl,hk,tb,fun l H1 nl s1 hl=>?_⟩;have tb1:=tb.same s1;refine Y8 l rfl ⟨_,SqL.of hl⟩ (fun L' nL=>?_);refine eN (xs:=nv (slk m m T')) (fun j acc H2=>Same H1 H2/\H2 L'=some (.lst acc)/\acc=nv (((slk m m T').take j).filter fun x=>decide (T'.ln x i≠0))) ⟨aa nL,a8,rfl⟩ (fun j acc H2 p=>SqL.of (p.1 _ _ hl)) ?_ ?_
   . intro j x acc H2 hj ex z_;refine hZq fun q_ e_=>?_;obtain⟨u,hL,rfl⟩:=z_;unfold nv at ex;rw[yW]at ex;obtain⟨r,er,rfl⟩:=za.mp ex;obtain⟨rm,rs⟩:=slk_mem.mp (z5 er);have d:=tb1.same u;obtain⟨q,eq,hq,_,_⟩:=d.ro.2 r rm;subst e_
     have al:(((slk m m T').take j).filter fun x=>decide (T'.ln x i≠0)).length<=m:=by
      refine z7 (zu _ _) (z7 (List.length_take_le' _ _) ?_);unfold slk;exact z7 (zu _ _) (by rw[A3];exact yV _)
     refine O4 _ rfl D.a D.C D.dx _ _ rfl d.ob hk.cls hk.nl (fl _ _) _ rfl pl' _ (r:Int) _ rfl rfl (SqL.of d.li) (ax eq) (Y2 _ rfl q _ (i:Int) _ ⟨rfl,rfl,SqL.of hq,ax (c5 (by omega)),rfl,Y3 _ rfl ?_⟩)
     by_cases z:T'.ln r i=0
     . rw[decide_eq_true (show V.int (T'.ln r i)=V.int 0 by rw[z])]
       refine iteF ?_;refine CompS.mk hj ⟨u,hL,?_⟩;rw[aH er,zx];simp[z]
     . rw[decide_eq_false (show¬V.int (T'.ln r i)=V.int 0 from fun e=>z (V.int.inj e))];refine iteT ?_;refine Y3 _ rfl (CompN.mk hj (by unfold nv;rw[yR];omega) hL ⟨az nL u,a8,?_⟩)
       rw[aH er,zx];simp[z,nv]
   . rintro acc H2 ⟨u,hL,rfl⟩;have d:=tb1.same u;have aA:(nv (slk m m T')).length=(slk m m T').length:=by unfold nv;rw[yR]
     rw[aA,zp]at hL;refine ah ?_;obtain⟨hg,y⟩:∃hg,hg=(slk m m T').filter fun x=>decide (T'.ln x i≠0):=⟨_,rfl⟩;rw[<-y]at hL;refine U5 _ rfl _ (.inl (Y3 _ (SqL.of hL) rfl)) ?_
     cases hg with
     |nil=>
      refine iteF ?_;refine⟨(Y4 _ _ rfl),U4 pl' ls' T' np ((bx.trans (.of_same s1)).trans (.of_same u)) d I ⟨Pm,St.next fun x hx hs=>?_⟩⟩;refine Classical.byContradiction fun z=>?_
      have:x∈(slk m m T').filter fun x=>decide (T'.ln x i≠0):=by
       rw[zC,slk_mem];exact⟨⟨hx,hs⟩,decide_eq_true z⟩
      rw[<-y]at this;cases this
     |cons r rest=>
      have mr:r∈(slk m m T').filter fun x=>decide (T'.ln x i≠0):=by rw[<-y];exact yT
      rw[zC,slk_mem,decide_eq_true_iff]at mr;obtain⟨⟨t,aB⟩,v⟩:=mr;refine iteT ?_;refine O2 _ rfl _ rfl L' _ ((0:Nat):Int) _ rfl rfl (SqL.of hL) (ax rfl) (U7 _ rfl D m m n scs us ws pl' ls' T' (Y4 r i ⟨rfl,hk,d,t,g,v,I.pos,bN bb hW.big,fun a c ha hc=>bN (bl a c ha hc) hW.big,fun au ao H3 n3 ai aC=>?_⟩));exact⟨(Y4 _ _ rfl),U4 au ao _ (.inr (((bx.trans (.of_same s1)).trans (.of_same u)).free d n3)) (((bx.trans (.of_same s1)).trans (.of_same u)).trans ai) aC (Wg.piv_inv I t g v) ⟨Pm.piv t g,St.turn I t g aB v⟩⟩
 . intro σ H' z_;refine hZq fun q_ e_=>?_;obtain⟨_,pl',ls',T',np,bx,tb,I,Pm,St⟩:=z_;subst e_;rw[wl,ul]at St;exact k pl' ls' T' H' np bx tb ⟨I,Pm,St⟩
end K46
namespace Dj
open PySem PySem.Spec PySem.W PyProof.Rows L2 Tre Srt
theorem uO{Q:Bool->Shared->Prop}{x:Int}{t u:Tok}{bs:List Value}(h:bD A s as bs q)(hq:Q (lexV fin ((x==y,decide (x < y))::q)) s):KatLex prog w A true fin Q ((Value.int x t::as).zip (Value.int y u::bs)) 0 s:=by
 rw[Ae];refine kat_cons (SeqAt.EqAt.int_int x t y u prog w _ _ ?_)
 cases e:(x==y)with
 |true=>
  rw[e]at hq;exact kat_yes (jD (by decide) h hq)
 |false=>
  rw[e]at hq;refine kat_no ?_;exact oneLt_int hq
def Hi(t:Tr):Prop:=∃x r,t= .tup (.int x::r)
theorem o8(I:Inv X pins σ H s):∀ {vs:List V} {ts:List Tr} {as:List Value},TrsAt H vs ts->Vals vs as->(∀t∈ts,Hi t)->∃fs,KatTups s.heap as fs/\fs.length=as.length/\∀v∈fs,∃(x:Int) (t:Tok),v= .int x t
 |vs,[],as,h,r,_=>by
  unfold TrsAt at h;subst h;cases r;exact Y8 ([]) (.nil) rfl (fun v m=>by cases m)
 |vs,t::ts,as,h,r,hh=>by
  obtain⟨v,p,rfl,h1,h2⟩:=h.inv
  cases r with
  |cons r1 r2=>
   obtain⟨fs,f,d,c⟩:=o8 I h2 r2 fun u m=>hh u (yU _ m);obtain⟨x,l,rfl⟩:=hh t yT;unfold TrAt at h1;obtain⟨a,ws,rfl,g,k⟩:=h1;cases r1;obtain⟨y,i,rfl,k1,k2⟩:=k.inv;unfold TrAt at k1;subst k1;obtain⟨bs,o,n,b,ho,hc,hd⟩:=bX I g
   cases b with
   |cons b j=>
    obtain⟨tk,rfl⟩:=b;refine Y8 _ (KatTups.cons ho hc hd rfl f) (by simp[d]) (fun v m=>?_)
    rcases yY.mp m with e|m
    . exact Y4 x tk e
    . exact c v m
def rE:List V->Hp->VK->Prop:=fun xs H Q=>∃(l:Addr) (vs:List V) (ts:List Tr),xs= [.ref l]/\H l=some (.lst vs)/\TrsAt H vs ts/\ts.length < 64/\(∀t∈ts,Hi t/\t.pure/\t.depth<=40)/\(∀t∈ts,∀u∈ts,Cm t u)/\SrQ H ts Q
end Dj
namespace Dj
open PySem PySem.Spec PyProof.Rows L2 Tre Wd Su
noncomputable def xY(P:Program)(w:World)(K:PySem.W.Frag)(td ty:TE):TE:=fun σ H Q=>td σ H fun x H1=>ty σ H1 fun y H2=>∃a b k kvs v,x= .ref a/\y= .ref b/\DJ P w K H2 a kvs/\KeyAt K H2 k b/\valJ kvs k=some v/\Q v H2
theorem pe_dixJ{pos:Pos}{o i:Expr}{ty:TE}(hu:X.A.units+30 < cLine)(ho:PE X o td)(hi:PE X i ty)(hs:NoSl i):PE X (.Subscript o i pos) (xY X.prog X.w X.K td ty):=by
 intro pins s σ H Q I h;refine ug PySem.F.slot_dict_getitem.lookup hs (thn (ho pins s σ H _ I h) fun u s1 ⟨x,H1,q,rx,m⟩=>thn (hi pins s1 σ H1 _ q m) fun iv s2 ⟨y,H2,c,r,a,b,k,kvs,v,ex,t,d,l,e,n⟩=>?_);subst ex t;obtain rfl:u=Value.ref a:=rx;obtain rfl:iv=Value.ref b:=r;obtain⟨z,hd,xs,g,dd⟩:=fX c.hok c.kIn d;have f:=g.val k;rw[e]at f
 cases j:atKey xs k with
 |none=>rw[j]at f;exact f.elim
 |some p=>
  rw[j]at f;exact⟨dd.typeIs,wpAny_getItem_heap (by show X.A.units+1+20 < cLine;omega) (l.is c.hok c.kIn) dd j (Y5 v H2 (c.tok _) f n)⟩
mutual
noncomputable def ktT:Tr->Tk.KT
 | .int i=> .lf (.inl i)
 | .str x=> .lf (.inr x)
 | .tup ts=> .tp (ktTs ts)
 |_=> .tp []
noncomputable def ktTs:List Tr->List Tk.KT
 | []=> []
 |t::ts=>ktT t::ktTs ts
end
noncomputable def ktL:Tr->List Tk.KT
 | .tup ts=>ktTs ts
 |_=> []
mutual
def Kp:Tr->Prop
 | .int _=>True
 | .str _=>True
 | .tup ts=>Kps ts
 |_=>False
def Kps:List Tr->Prop
 | []=>True
 |t::ts=>Kp t/\Kps ts
end
theorem uM{ts:List Tr}(h:∀t∈ts,Kp t):Kps ts:=by
 induction ts with
 |nil=>trivial
 |cons t ts a=>exact⟨h t yT,a fun u m=>h u (yU _ m)⟩
variable{f:Fr}{kvs:List Ent}{ks:List Tr}{t:Tr}
theorem pY(h:Ty .tm t):Kp t:=by
 generalize e:So.tm=k at h
 induction h with
 |nm x=>simp only[Kp,Kps,and_self]
 |ap x ts _ _ a=>simp only[Kp,Kps,and_true,true_and];exact uM fun t m=>a t m e
 |fr=>cases e
 |pr=>cases e
 |fl=>cases e
 |mo=>cases e
 |li=>cases e
 |no=>cases e
 |bo=>cases e
 |ei=>cases e
 |lt=>cases e
mutual
theorem xq:∀ {t u:Tr},Kp t->Kp u->ktT t=ktT u->t=u
 | .int i, .int j,_,_,e=>by simp only[ktT,Tk.KT.lf.injEq,Sum.inl.injEq]at e;rw[e]
 | .int i, .str y,_,_,e=>by simp[ktT]at e
 | .int i, .tup us,_,_,e=>by simp[ktT]at e
 | .str x, .int j,_,_,e=>by simp[ktT]at e
 | .str x, .str y,_,_,e=>by simp only[ktT,Tk.KT.lf.injEq,Sum.inr.injEq]at e;rw[e]
 | .str x, .tup us,_,_,e=>by simp[ktT]at e
 | .tup ts, .int j,_,_,e=>by simp[ktT]at e
 | .tup ts, .str y,_,_,e=>by simp[ktT]at e
 | .tup ts, .tup us,h1,h2,e=>by
  simp only[ktT,Tk.KT.tp.injEq]at e;rw[kts_inj h1 h2 e]
theorem kts_inj:∀ {ts us:List Tr},Kps ts->Kps us->ktTs ts=ktTs us->ts=us
 | [],[],_,_,_=>rfl
 | [],_::_,_,_,e=>by simp[ktTs]at e
 |_::_,[],_,_,e=>by simp[ktTs]at e
 |t::ts,u::us,h1,h2,e=>by
  simp only[ktTs,Av]at e;rw[xq h1.1 h2.1 e.1,kts_inj h1.2 h2.2 e.2]
end
theorem o2{u:Tr}(h1:Ty .tm t)(h2:Ty .tm u)(e:ktL t=ktL u):t=u:=by
 have k1:=pY h1;have k2:=pY h2;obtain⟨ts,rfl⟩:=j7 h1;obtain⟨us,rfl⟩:=j7 h2;rw[kts_inj k1 k2 e]
mutual
theorem xr:∀ {t:Tr},Kp t->(ktT t).depth=t.depth
 | .int i,_=>by simp[ktT,Tk.KT.depth,Tr.depth]
 | .str x,_=>by simp[ktT,Tk.KT.depth,Tr.depth]
 | .tup ts,k=>by
  simp only[ktT,Tk.KT.depth,Tr.depth];rw[kts_dep k]
theorem kts_dep:∀ {ts:List Tr},Kps ts->Tk.KTs.depth (ktTs ts)=Trs.depth ts
 | [],_=>by simp[ktTs,Tk.KTs.depth,Trs.depth]
 |t::ts,k=>by
  simp only[ktTs,Tk.KTs.depth,Trs.depth];rw[xr k.1,kts_dep k.2]
end
mutual
theorem xp:∀ {v:V} {t:Tr},Kp t->TrAt H v t->KVt K H v (ktT t)
 |v, .int i,_,h=>by unfold TrAt at h;simp only[ktT,KVt];exact h
 |v, .str x,_,h=>by unfold TrAt at h;simp only[ktT,KVt];exact h
 |v, .tup ts,k,h=>by
  unfold TrAt at h;obtain⟨r,vs,e,h1,h2⟩:=h;simp only[ktT,KVt];exact⟨r,vs,e, .inl h1,kvts_of k h2⟩
theorem kvts_of:∀ {vs:List V} {ts:List Tr},Kps ts->TrsAt H vs ts->KVts K H vs (ktTs ts)
 |vs,[],_,h=>by unfold TrsAt at h;simp only[ktTs,KVts];exact h
 |vs,t::ts,k,h=>by
  obtain⟨v,r,e,h1,h2⟩:=h.inv;simp only[ktTs,KVts];exact⟨v,r,e,xp k.1 h1,kvts_of k.2 h2⟩
end
theorem key_tm{b:Addr}(ty:Ty .tm t)(hd:t.depth<=7)(h:TrAt H (.ref b) t):KeyAt K H (ktL t) b:=by
 have kp:=pY ty;obtain⟨ts,rfl⟩:=j7 ty;unfold TrAt at h;obtain⟨r,vs,e,h1,h2⟩:=h;cases e;refine⟨vs, .inl h1,kvts_of kp h2,?_⟩;have:= @kts_dep ts kp;simp only[Tr.depth]at hd;simp only[ktL,Tk.KT.depth];omega
theorem tm_ref(ty:Ty .tm t)(h:TrAt H v t):∃b,v= .ref b:=by
 obtain⟨ts,rfl⟩:=j7 ty;unfold TrAt at h;obtain⟨r,vs,e,_⟩:=h;exact⟨r,e⟩
def En(H:Hp)(g:Tr->Fr)(e:Ent)(t:Tr):Prop:=e.1=ktL t/\TrAt H (.ref e.2.1) t/\TrAt H e.2.2 (frT (g t))
structure DAt (P:Program) (w:World) (K:PySem.W.Frag) (H:Hp) (a:Addr) (ks:List Tr) (g:Tr->Fr):Prop where
 ex:∃kvs,DJ P w K H a kvs/\Paired (En H g) kvs ks
 ty:∀t∈ks,Ty .tm t/\t.depth<=7
 nd:ks.Nodup
theorem en_mono{g:Tr->Fr}(k:Kd H H')(h:Paired (En H g) kvs ks):Paired (En H' g) kvs ks:=Paired.imp' (fun e t x=>⟨x.1,x.2.1.mono k,x.2.2.mono k⟩) h
theorem DAt.kd{g:Tr->Fr}(x:DAt P w K H a ks g)(k:Kd H H')(hs:∀o,(∀xs,o≠ .lst xs)->H a=some o->H' a=some o):DAt P w K H' a ks g:=by
 obtain⟨kvs,d,p⟩:=x.ex;exact⟨⟨kvs,d.kd k (hs _ (fun _ z=>by cases z) d.at_),en_mono k p⟩,x.ty,x.nd⟩
theorem DAt.same{g:Tr->Fr}(x:DAt P w K H a ks g)(s:Same H H'):DAt P w K H' a ks g:=x.kd (Kd.of_same s) fun o _ e=>s _ _ e
theorem en_val{g:Tr->Fr}(h:Paired (En H g) kvs ks)(ty:∀t∈ks,Ty .tm t)(tt:Ty .tm t):(t∈ks->∃v,valJ kvs (ktL t)=some v/\TrAt H v (frT (g t)))/\(t∉ks->valJ kvs (ktL t)=none):=by
 induction h with
 |nil=>exact⟨fun m=>(by cases m),fun _=>rfl⟩
 | @cons e u es us h1 _ a=>
  obtain⟨i1,i2⟩:=a fun x m=>ty x (yU _ m);by_cases z:u=t
  . subst z;exact⟨fun _=>(Y3 e.2.2 (jW h1.1) h1.2.2),fun n=>absurd yT n⟩
  . have ne:¬e.1=ktL t:=fun q=>z (o2 (ty u yT) tt (h1.1.symm.trans q));refine⟨fun m=>?_,fun n=>?_⟩
    . rw[gH ne];rcases yY.mp m with e'|m
      . exact absurd e'.symm z
      . exact i1 m
    . rw[gH ne];exact i2 fun m=>n (yU _ m)
theorem DAt.val{g:Tr->Fr}(x:DAt P w K H a ks g)(tt:Ty .tm t):∃kvs,DJ P w K H a kvs/\kvs.length=ks.length/\(t∈ks->∃v,valJ kvs (ktL t)=some v/\TrAt H v (frT (g t)))/\(t∉ks->valJ kvs (ktL t)=none):=by
 obtain⟨kvs,d,p⟩:=x.ex;exact⟨kvs,d,Paired.length p,en_val p (fun t m=>(x.ty t m).1) tt⟩
open Classical in
noncomputable def setG(g:Tr->Fr)(t:Tr)(f:Fr):Tr->Fr:=fun u=>if u=t then f else g u
open Classical in
noncomputable def addK(ks:List Tr)(t:Tr):List Tr:=if t∈ks then ks else ks++ [t]
theorem xF{g:Tr->Fr}(hv:TrAt H v (frT f))(tt:Ty .tm t)(h:Paired (En H g) kvs ks)(ty:∀t∈ks,Ty .tm t):Paired (En H (setG g t f)) (kvs.map fun p=>if p.1=ktL t then(p.1,p.2.1,v)else p) ks:=by
 induction h with
 |nil=>exact .nil
 | @cons e u es us h1 _ a=>
  rw[zh];refine .cons ?_ (a fun x m=>ty x (yU _ m));by_cases z:u=t
  . subst z;rw[if_pos h1.1];refine⟨h1.1,h1.2.1,?_⟩;unfold setG;rw[if_pos rfl];exact hv
  . have ne:¬e.1=ktL t:=fun q=>z (o2 (ty u yT) tt (h1.1.symm.trans q));rw[if_neg ne];refine⟨h1.1,h1.2.1,?_⟩;unfold setG;rw[if_neg z];exact h1.2.2
theorem xE{g:Tr->Fr}(n:t∉ks)(h:Paired (En H g) kvs ks):Paired (En H (setG g t f)) kvs ks:=by
 induction h with
 |nil=>exact .nil
 | @cons e u es us h1 _ a=>
  refine .cons ⟨h1.1,h1.2.1,?_⟩ (a fun m=>n (yU _ m));unfold setG;rw[if_neg (fun z=>n (by rw[<-z];exact yT))]
  exact h1.2.2
theorem DAt.put{g:Tr->Fr}(x:DAt P w K H a ks g){t:Tr}{b:Addr}{v:V}{f:Fr}(tt:Ty .tm t)(hd:t.depth<=7)(hb:TrAt H (.ref b) t)(hv:TrAt H v (frT f)){kvs:List Ent}(d:DJ P w K H a kvs)(hk:DAt P w K H a ks g->Paired (En H g) kvs ks):
 DAt P w K (upd H a (dJ P w a (putJ kvs (ktL t) b v))) a (addK ks t) (setG g t f):=by
 have p:=hk x;have kd:=Kd.updJ (o:=dJ P w a (putJ kvs (ktL t) b v)) d.at_;have c:=en_val p (fun t m=>(x.ty t m).1) tt;refine⟨(Y3 _ (d.put (key_tm tt hd hb)) ?_),fun u m=>?_,?_⟩
 . refine en_mono kd ?_;unfold putJ addK;by_cases m:t∈ks
   . obtain⟨v',e',_⟩:=c.1 m;rw[e',if_pos m,if_pos (show(some v').isSome=true from rfl)];exact xF hv tt p fun t m=>(x.ty t m).1
   . rw[c.2 m,if_neg m,if_neg (by simp)]
     refine Paired.snoc (xE m p) ⟨rfl,hb,?_⟩;unfold setG;rw[if_pos rfl];exact hv
 . unfold addK at m;split at m
   . exact x.ty u m
   . rcases zw.mp m with m|m
     . exact x.ty u m
     . rw[zq.mp m];exact⟨tt,hd⟩
 . unfold addK;split
   . exact x.nd
   . rename_i n;exact List.nodup_append.mpr ⟨x.nd,(by simp),fun u e y h=>by rw[zq.mp h];exact fun z=>n (by rw[<-z];exact e)⟩
open Classical in
structure Sd (ds:List Pq) (ks:List Tr) (g:Tr->Fr):Prop where
 sh:∀t∈ks,Sh (g t)
 eq:∀t,tot t ds=if t∈ks then rv (g t)else 0
theorem Sd.nil(g:Tr->Fr):Sd [] [] g:=⟨fun t m=>(by cases m),fun t=>(by rw[if_neg (by simp)];rfl)⟩
open Classical in
theorem Sd.add{ds:List Pq}{g:Tr->Fr}(h:Sd ds ks g){p:Pq}(hf:Sh f)(e:rv f=(if p.1∈ks then rv (g p.1)else 0)+rv p.2):Sd (ds++ [p]) (addK ks p.1) (setG g p.1 f):=by
 refine⟨fun t m=>?_,fun t=>?_⟩
 . unfold setG;by_cases z:t=p.1
   . rw[if_pos z];exact hf
   . rw[if_neg z];unfold addK at m;split at m
     . exact h.sh t m
     . rcases zw.mp m with m|m
       . exact h.sh t m
       . exact absurd (zq.mp m) z
 . rw[gc,u9,h.eq];unfold addK setG;by_cases z:t=p.1
   . subst z;rw[if_pos rfl];by_cases m:p.1∈ks
     . rw[if_pos m,if_pos m,if_pos m,if_pos rfl,e,if_pos m]
     . have c:p.1∈ks++ [p.1]:=zy _ yT;rw[if_neg m,if_neg m,if_pos c,if_pos rfl,e,if_neg m]
   . have a:¬p.1=t:=fun q=>z q.symm
     have b:(t∈(if p.1∈ks then ks else ks++ [p.1]))↔t∈ks:=by
      split
      . exact Iff.rfl
      . rw[zw,zq];exact⟨fun q=>q.elim id fun q=>absurd q z, .inl⟩
     simp only[b,z,a,if_false];grind
noncomputable def outP(g:Tr->Fr)(ts:List Tr):List Pq:=(ts.filter fun t=>decide ((g t).1≠0)).map fun t=>(t,g t)
open Classical in
theorem mO(g:Tr->Fr)(u:Tr):∀ {ts:List Tr},ts.Nodup->(∀t∈ts,Sh (g t))->tot u (outP g ts)=if u∈ts then rv (g u)else 0
 | [],_,_=>by rw[if_neg (by simp)];rfl
 |t::ts,nd,hs=>by
  obtain⟨n1,n2⟩:=Ab.mp nd;have b:=mO g u n2 fun x m=>hs x (yU _ m);unfold outP at b ⊢;rw[List.filter_cons]
  have a:∀(q:Rat),(if u=t then q else 0)+(if u∈ts then rv (g u)else 0)=(if u∈t::ts then(if u=t then q else rv (g u))else 0):=by
   intro q;by_cases z:u=t
   . have d:u∉ts:=fun m=>n1 (by rw[<-z];exact m)
     rw[if_pos z,if_neg d,if_pos (by rw[z];exact yT),if_pos z]
     grind
   . rw[if_neg z];by_cases m:u∈ts
     . rw[if_pos m,if_pos (yU _ m),if_neg z];grind
     . rw[if_neg m,if_neg (fun q=>(yY.mp q).elim z m)];grind
  by_cases c:(g t).1=0
  . have e:decide ((g t).1≠0)=false:=by simp[c]
    rw[e,if_neg (by decide),b]
    have f:rv (g t)=0:=by
     unfold rv;rw[c];have:((0:Int):Rat)=0:=by simp
     rw[this];grind
    have:=a 0;by_cases z:u=t
    . subst z;rw[if_neg n1,if_pos yT,f]
    . rw[if_neg z]at this;by_cases m:u∈ts
      . rw[if_pos m,if_pos (yU _ m)]
      . rw[if_neg m,if_neg (fun q=>(yY.mp q).elim z m)]
  . have e:decide ((g t).1≠0)=true:=by simp[c]
    rw[e,if_pos rfl,zh];simp only[tot];rw[b];by_cases z:u=t
    . subst z;rw[if_pos rfl,if_neg n1,if_pos yT];grind
    . rw[if_neg (fun q=>z q.symm)];by_cases m:u∈ts
      . rw[if_pos m,if_pos (yU _ m)];grind
      . rw[if_neg m,if_neg (fun q=>(yY.mp q).elim z m)];grind
end Dj
namespace Dj
open PySem PySem.Spec PySem.W PyProof.Rows L2 Tre Srt
variable{Q:VK}{ts:List Tr}
theorem xL(hu:X.A.units+60 < cLine)(I:Inv X pins σ H s)(rv:Vals vs as)(hT:TrsAt H vs ts)(hlen:ts.length < 64)(hts:∀t∈ts,Hi t/\t.pure/\t.depth<=40)(hcm:∀t∈ts,∀u∈ts,Cm t u)(hcol:∀(E:Value->Shared->Prop) (Q':List Value->Shared->Prop),(∀h' tk,(∀b o,s.heap.get? b=some o->h'.get? b=some o)->s.heap.objs.size < h'.objs.size->Q' as {s with heap:=h',toks:=tk})->wpAny (model X.prog X.w) X.A.in1 (collect (.ref a)) Q' E s)(q:SrQ H ts Q):wpAny (model X.prog X.w) X.A (call (.builtin "sorted") [.ref a]) (EP X pins σ Q) X.xe s:=by
 have l1:=hT.len;have l2:=rv.length;refine dX (κ:=tuples' true) I rv hT hlen hcol (fun s' k h2 E' R hR=>?_) (fun s' k i j t u v v' a b mt mu ht y ra rb ea eb R hR=>?_) q
 . skip
   obtain⟨fs,k1,k2,k3⟩:=o8 k hT rv fun t m=>(hts t m).1;refine kat_kind (T:=Value.type "int") k1 (by omega) (fun v m=>?_) (by decide +kernel) ?_
   . obtain⟨x,t,rfl⟩:=k3 v m;exact .now
   . rw[show(Value.type "int" !=Value.type "tuple")=true by decide +kernel]
     exact hR
 . skip
   have g:=hcm t mt u mu;obtain⟨⟨x1,r1,rfl⟩,p1,d1⟩:=hts t mt;obtain⟨⟨f,r2,rfl⟩,p2,d2⟩:=hts u mu;unfold TrAt at ht y;obtain⟨x0,bb,rfl,g0,g1⟩:=ht;obtain⟨y0,a5,rfl,g2,g3⟩:=y;cases ra;cases rb;obtain⟨bg,o,n,q3,ho,a0,aC⟩:=bX k g0;obtain⟨a6,o',n',q4,ao,aT,aA⟩:=bX k g2;have z0:=g1.len;have z1:=g3.len;have z2:=q3.length;have z3:=q4.length;obtain⟨y1,a3,rfl,w1,w2⟩:=g1.inv;obtain⟨y2,a4,rfl,w3,w4⟩:=g3.inv;unfold TrAt at w1 w3;subst w1 w3
   cases q3 with
   |cons q3 ai=>
    cases q4 with
    |cons q4 aB=>
     obtain⟨r,rfl⟩:=q3;obtain⟨l,rfl⟩:=q4;unfold Tr.depth at d1;unfold Trs.depth at d1;unfold Tr.pure at p1;unfold Trs.pure at p1;unfold kas_ask;rw[ea,eb];refine kat_lt (b:=true) ho aC ao aA ?_;rw[An,An];have p:X.A.in1.in1.units+40+1 < cLine:=by show X.A.units+1+1+40+1 < cLine;omega
     have e:∀q,lexV (decide ((Value.int x1 r::_).toArray.size < (Value.int f l::_).toArray.size)) ((x1==f,decide (x1 < f))::q)=lexV (decide ((Tr.int x1::r1).length < (Tr.int f::r2).length)) ((x1==f,decide (x1 < f))::q):=fun q=>by
      rw[yX,yX,<-z2,<-z3,z0,z1]
     by_cases ex:(x1==f)=true
     . unfold Cm at g;unfold Cms at g
       have au:Cms r1 r2:=by
        rcases g with⟨_,c⟩|⟨n,_⟩
        . exact c
        . unfold Tre.eqT at n;rw[ex]at n;cases n
       have hx':=eF (A:=X.A.in1.in1) k p (fun d pp cc a1 a2 b1 b2=>dG k 40 d pp cc a1 a2 b1 b2 p) (by omega) (.inl p1.2) au w2 w4 ai aB
       refine uO hx' ?_;rw[e]
       have e2:lexV (decide ((Tr.int x1::r1).length < (Tr.int f::r2).length)) ((x1==f,decide (x1 < f))::qs r1 r2)=ltT (.tup (Tr.int x1::r1)) (.tup (Tr.int f::r2)):=by
        refine aU ?_;rw[ltT_iff];have e4:x1=f:=beq_iff_eq.mp ex;have el:decide ((Tr.int x1::r1).length < (Tr.int f::r2).length)=decide (r1.length < r2.length):=by simp
        rw[el];simp only[lexV,ex,if_true,df,Tre.code,Tre.codes,LtC,LtCs,Co.num.injEq,e4,beq_self_eq_true];constructor
        . intro h;exact .inr ⟨trivial,h⟩
        . rintro(h|h)
          . exact absurd h (Int.lt_irrefl _)
          . exact h.2
       rw[e2];exact hR
     . have exf:(x1==f)=false:=by simpa using ex
       rw[Ae];refine kat_cons (SeqAt.EqAt.int_int x1 r f l X.prog X.w _ _ ?_);rw[exf];refine kat_no ?_;refine oneLt_int ?_
       have e2:decide (x1 < f)=ltT (.tup (Tr.int x1::r1)) (.tup (Tr.int f::r2)):=by
        refine aU ?_;rw[ltT_iff,decide_eq_true_iff];have ne:x1≠f:=fun z=>ex (beq_iff_eq.mpr z);simp only[Tre.code,Tre.codes,LtC,LtCs,Co.num.injEq];constructor
        . intro h;exact .inl h
        . rintro(h|h)
          . exact h
          . exact absurd h.1 ne
       rw[e2];exact hR
theorem xK(hu:X.A.units+60 < cLine)(I:Inv X pins σ H s)(rv:Vals vs as)(hT:TrsAt H vs ts)(hlen:ts.length < 64)(hts:∀t∈ts,Hd t/\t.pure/\t.depth<=40)(hcm:∀t∈ts,∀u∈ts,Cm t u)(hcol:∀(E:Value->Shared->Prop) (Q':List Value->Shared->Prop),(∀h' tk,(∀b o,s.heap.get? b=some o->h'.get? b=some o)->s.heap.objs.size < h'.objs.size->Q' as {s with heap:=h',toks:=tk})->wpAny (model X.prog X.w) X.A.in1 (collect (.ref a)) Q' E s)(q:SrQ H ts Q):wpAny (model X.prog X.w) X.A (call (.builtin "sorted") [.ref a]) (EP X pins σ Q) X.xe s:=by
 have l1:=hT.len;have l2:=rv.length;refine dX (κ:=tuples' false) I rv hT hlen hcol (fun s' c h2 E' R l=>?_) (fun s' c i j t u v v' a b mt mu ht k ra rb ea eb R l=>?_) q
 . skip
   obtain⟨fs,k1,k2,k3⟩:=i5 c hT rv fun t m=>(hts t m).1;refine PySem.W.kat_kind (T:=Value.type "tuple") k1 (by omega) (fun v m=>?_) (by decide +kernel) ?_
   . obtain⟨r,o,rfl,ho,hc⟩:=k3 v m;have:PySem.W.Looks (model X.prog X.w) s'.heap (typeOf (.ref r)) o.cls:=(PySem.W.Looks.ld ho).andThen .now;rw[hc]at this;exact this
   . rw[show(Value.type "tuple" !=Value.type "tuple")=false by decide +kernel]
     exact l
 . skip
   have hc:=hcm t mt u mu;obtain⟨⟨y,r1,rfl⟩,p1,d1⟩:=hts t mt;obtain⟨⟨x,r2,rfl⟩,p2,d2⟩:=hts u mu;unfold TrAt at ht k;obtain⟨x0,aA,rfl,g0,g1⟩:=ht;obtain⟨y0,au,rfl,g2,g3⟩:=k;cases ra;cases rb;obtain⟨h,o,n,q3,ho,ao,hd⟩:=bX c g0;obtain⟨f,o',n',q4,p,ai,z⟩:=bX c g2;unfold Tr.depth at d1;unfold Tr.pure at p1;unfold Cm at hc;have g:X.A.in1.in1.units+40+1 < cLine:=by show X.A.units+1+1+40+1 < cLine;omega
   have hx:=eF (A:=X.A.in1.in1) c g (fun d pp cc a1 a2 b1 b2=>dG c 40 d pp cc a1 a2 b1 b2 g) (by omega) (.inl p1) hc g1 g3 q3 q4
   unfold PySem.W.kas_ask;rw[ea,eb];refine PySem.W.kat_lt (b:=false) ho hd p z ?_;rw[An,An];refine iR hx ?_
   have e:lexV (decide (h.toArray.size < f.toArray.size)) (qs (.tup y::r1) (.tup x::r2))=ltT (.tup (.tup y::r1)) (.tup (.tup x::r2)):=by
    have z0:=g1.len;have z1:=g3.len;have z2:=q3.length;have z3:=q4.length
    have e2:decide (h.toArray.size < f.toArray.size)=decide ((Tr.tup y::r1).length < (Tr.tup x::r2).length):=by
     rw[yX,yX,<-z2,<-z3,z0,z1]
    rw[e2];refine aU ?_;rw[df,ltT_iff];simp[Tre.code,LtC]
   rw[e];exact l
theorem kZ(pl:s.heap.IsList l as.toArray)(hl:as.length < 64)(E:Value->Shared->Prop)(Q':List Value->Shared->Prop)(hQ':∀h' tk,(∀b o,s.heap.get? b=some o->h'.get? b=some o)->s.heap.objs.size < h'.objs.size->Q' as {s with heap:=h',toks:=tk}):wpAny (model X.prog X.w) X.A.in1 (collect (.ref l)) Q' E s:=by
 have c:(64:Nat)<=sizeLine:=by decide +kernel
 refine collect_list pl ?_ (by omega)
 have:=hQ' ((s.heap.push (seqObj "list" #[] 0)).update s.heap.objs.size (Obj.mapSeq (· ++as.toArray))) s.toks (fun b o e=>?_) ?_
 . simpa using this
 . have a:b < s.heap.objs.size:=Heap.lt_size e;rw[Heap.get?_update_ne _ _ _ _ (zo a),Heap.get?_push_ne _ _ _ (zo a)];exact e
 . rw[Heap.size_update,size_push'];exact zG _
theorem call_sT(hu:X.A.units+60 < cLine):cj X (.builtin "sorted") uo:=by
 intro pins s σ H xs us Q I r h;obtain⟨l,vs,ts,rfl,hl,e,a,d,c,q⟩:=h;obtain⟨u,rfl,f⟩:=dh r;cases f;obtain⟨as,rv,pl,_⟩:=I.list (SqL.of hl);have l1:=e.len;have l2:=rv.length;exact xK hu I rv e a d c (fun E g b=>kZ pl.isList (by omega) E g b) q
theorem call_sI(hu:X.A.units+60 < cLine):cj X (.builtin "sorted") rE:=by
 intro pins s σ H xs us Q I r h;obtain⟨l,vs,ts,rfl,hl,e,a,d,c,q⟩:=h;obtain⟨u,rfl,f⟩:=dh r;cases f;obtain⟨as,rv,pl,_⟩:=I.list (SqL.of hl);have l1:=e.len;have l2:=rv.length;exact xL hu I rv e a d c (fun E g b=>kZ pl.isList (by omega) E g b) q
end Dj
namespace L2
open PySem PySem.Spec PyProof.Rows
theorem pG{Q:VK}(e:subS mp σ=none::none::rest)(ha:∀Q:VK,Q (.ref a) H1->tl σ H Q)(h1:SqL K H1 a xs)(h:∀D,H1 D=none->∃Pv:Nat->List V->Hp->Prop,Pv 0 [] (upd H1 D (.lst []))/\(∀i acc H,Pv i acc H->SqL K H a xs)/\
  (∀i z acc H,i < xs.length->Pv i acc H->xs[i]?=some z->∃T x y,z= .ref T/\SqT K' H T [x,y]/\tc (some x::some y::rest) H fun b H5=>if b=true then te (some x::some y::rest) H5 (CompN xs.length i D acc Pv)else CompS xs.length i acc Pv H5)/\∀acc H,Pv xs.length acc H->Q (.ref D) H):
 bU mp (oh K tl) (gTup K' 2 (b9 (aM 0) (b9 (aM 1) gNil))) tc te σ H Q:=by
 unfold bU;rw[e];refine ha _ (Y8 a rfl ⟨xs,h1⟩ (fun D j=>?_));obtain⟨Pv,g,l,ps,o⟩:=h D j;refine Y3 (fun i m acc H=>m=xs.length - i/\i<=xs.length/\Pv i acc H) (Y8 xs.length (by simp) (zc _) g) ?_
 rintro i m acc H ⟨rfl,hi,p⟩;have f:=l i acc H p;by_cases c:i < xs.length
 . refine .inr ⟨(U3 xs (xs[i]) f (by simp[c])),?_⟩
   rintro v H' ⟨rfl,y⟩;have k:=y xs f;obtain⟨T,x,z,rfl,n,d⟩:=ps i v acc _ c p k;exact O3 T ([x,z]) rfl n rfl x ([z]) rfl z ([]) rfl rfl ⟨ext2,d⟩
 . have ei:i=xs.length:=by omega
   subst ei;exact .inl ⟨(Y3 xs f (yV _)),o acc H p⟩
end L2
namespace K46
open PySem L2 Mth Tre Wd Su Tw Fm
variable{ts us:List Tr}{T:Wg.Tb}
theorem fi{t u:Tr}(h:Cm t u)(hs:Cms ts us):Cms (t::ts) (u::us):=by
 unfold Cms;cases e:Tre.eqT t u
 . exact .inr ⟨rfl,h⟩
 . exact .inl ⟨rfl,hs⟩
theorem bq:Cms [] us:=by unfold Cms;trivial
theorem fK{a b:Int}:Cm (.int a) (.int b):=by unfold Cm;trivial
theorem dF(h:Cms ts us):Cm (.tup ts) (.tup us):=by unfold Cm;exact h
theorem at_i{x:Int}:TrAt H (.int x) (.int x):=by unfold TrAt;rfl
def cT(p:Nat×Int):Tr:= .tup [.int (p.1:Int), .int p.2]
noncomputable def hcs(n:Nat)(T:Wg.Tb)(i:Nat):List (Nat×Int):=((List.range n).filter fun c=>decide (T.ln i c≠0)).map fun c=>(T.hd c,-T.ln i c)
noncomputable def wf(scs:List Int)(g:Int)(p:Nat×Int):Fr:=(fx (p.2*scs.getD p.1 0) g,fy (p.2*scs.getD p.1 0) g)
def wT(p:Nat×Fr):Tr:= .tup [.int (p.1:Int),frT p.2]
theorem jv{p:Nat×Int}(h:p∈hcs n T i):∃c,c < n/\T.ln i c≠0/\p=(T.hd c,-T.ln i c):=by
 unfold hcs at h;obtain⟨c,hc,rfl⟩:=zr.mp h;rw[zC,zZ,decide_eq_true_iff]at hc;exact⟨c,hc.1,hc.2,rfl⟩
theorem oi:(hcs n T i).length<=n:=by
 unfold hcs;rw[yR];exact z7 (zu _ _) (by rw[A3];exact yV _)
def r4:Sp:=fun vs H Q _=>∃(D:TA) (m mm n:Nat) (scs:List Int) (us:List Tr) (ws:List V) (pl:Addr) (ls:List V) (T:Wg.Tb) (i:Nat) (ql:Addr),vs= [.ref D.a, .ref ql]/\Tk K D.C/\Tab D m mm n scs us ws pl ls T H/\H ql=some (.lst ((Wg.ls (n+2) (T.ln i)).map V.int))/\
 ∀l H' ws',H l=none->Same H H'->H' l=some (.lst ws')->TrsAt H' ws' ((hcs n T i).map cT)->Q (.ref l) H'
theorem yj:FnScope ["table","line"] ["table","line"] (af sHco):= .of
theorem wX(F:Fun K "head_counts" "head_counts" sHco f fd)(B:Blt mg):FnOk P w K mg base CX0 1 f fd ["table","line"] (r4 (K:=K)):=by
 refine F.okb yj fun vs H Q E h=>?_;refine hZq fun q_ e_=>?_;obtain⟨D,m,mm,n,scs,us,ws,pl,ls,T,d,ql,rfl,hk,hT,v,k⟩:=h;subst e_;refine⟨rfl,fun ao A outer s hr=>?_⟩;have r:(["head","count"]:List Str).Nodup:=by decide +kernel
 refine Y3 _ (ag (aD (aY (NC:= ["head","count"]) (mp:= [none,none]) (g:=gTup K 2 (b9 (aM 0) (b9 (aM 1) gNil))) rfl (eZ rfl B.zi (a7 (aI (pv 0) rfl) (a7 (pv 1) a9)))
  (fun _ _ _ _ _=>ba (n:=2) rfl (aj (pgA 0 r) (aj (pgA 1 r) aQ))) (fun _ _ _ _ _=>cp (aw iM (pv 1) ad (aE _)))
  (fun _ _ _ _ _=>aX (a7 (pv 0) (a7 (br aW (pv 1)) a9)))))) ?_
 have ai:(20000:Nat)<=sizeLine:=by decide +kernel
 have n64:=hT.n64;refine eK (xs:=nv (Wg.ls n T.hd)) (ys:=(Wg.ls (n+2) (T.ln d)).map V.int) (a:=D.ph) (b:=ql) (by rw[bf,yR,Wg.ls_len];omega) (fun Q q=>Y9 _ rfl D.a D.C D.dx _ _ rfl hT.ob hk.cls hk.nh rfl (Y3 _ rfl q)) (SqL.of hT.hd) (SqL.of v) fun L nL=>?_
 refine U8 (fun j acc H'=>Same H H'/\H' L=some (.lst acc)/\TrsAt H' acc ((((List.range j).filter fun c=>decide (T.ln d c≠0)).map fun c=>(T.hd c,-T.ln d c)).map cT)) ⟨aa nL,a8, .nil⟩ (fun j acc H' p=>⟨SqL.of (p.1 _ _ hT.hd),SqL.of (p.1 _ _ v)⟩) ?_ ?_
 . rintro j Tt x y acc H' hj _ ⟨s2,u,l⟩ ex ey nT;rw[bf]at hj;rw[fQ hj]at ex;rw[c5 (by omega)]at ey
   cases ex;cases ey;have i:=aa (o:= .tup [.int (T.hd j:Nat), .int (T.ln d j)]) nT;refine O3 Tt _ rfl (SqT.of a8) rfl _ _ rfl _ _ rfl rfl ⟨ext2,?_⟩;refine O5 _ rfl rfl _ rfl ?_
   have al:acc.length<=j:=by
    rw[l.len,yR,yR];exact z7 (zu _ _) (by rw[A3];exact yV _)
   by_cases z:T.ln d j=0
   . rw[decide_eq_true (show V.int (T.ln d j)=V.int 0 by rw[z])]
     refine iteF ?_;refine CompS.mk (by rw[bf];exact hj) ⟨s2.trans i,i _ _ u,?_⟩
     rw[zH,zx];have:(List.filter (fun c=>decide (T.ln d c≠0)) [j])= []:=by simp[z]
     rw[this,Aw];exact l.mono (Kd.of_same i)
   . rw[decide_eq_false (show¬V.int (T.ln d j)=V.int 0 from fun e=>z (V.int.inj e))];refine iteT ?_;refine Y3 _ rfl (J3 _ rfl _ rfl two (fun t nt=>?_));have st:=aa (o:= .tup [.int (T.hd j:Nat), .int (-T.ln d j)]) nt;refine CompN.mk (by rw[bf];exact hj) (by omega) (st _ _ (i _ _ u)) ⟨az nL ((s2.trans i).trans st),a8,?_⟩
     rw[zH,zx];have e1:(List.filter (fun c=>decide (T.ln d c≠0)) [j])= [j]:=by simp[z]
     rw[e1,zd,zd];have kd:=Kd.upd (ys:=acc++ [.ref t]) (st _ _ (i _ _ u));refine TrsAt.app (.cons ?_ .nil) ((l.mono (Kd.of_same (i.trans st))).mono kd);exact(cy (a:= .int (T.hd j:Nat)) (b:= .int (-T.ln d j)) a8 at_i at_i).mono kd
 . rintro acc H2 ⟨s2,u,l⟩;rw[bf]at l;exact k L H2 acc nL s2 u l
def qI:Sp:=fun vs H Q _=>∃(D:TA) (m mm n:Nat) (scs:List Int) (us:List Tr) (ws:List V) (pl:Addr) (ls:List V) (T:Wg.Tb) (lc:Addr) (wc:List V) (cs:List (Nat×Int)) (g:Int),vs= [.ref D.a, .ref lc, .int g]/\Tk K D.C/\Tab D m mm n scs us ws pl ls T H/\H lc=some (.lst wc)/\TrsAt H wc (cs.map cT)/\
 (∀p∈cs,p.1 < mm/\Big p.2)/\(∀s∈scs,Big s)/\0 < g/\Big g/\cs.length < 64/\
 ∀l H' ws2 us2,H l=none->Same H H'->H' l=some (.lst ws2)->TrsAt H' ws2 us2->us2.Perm ((cs.map fun p=>(p.1,wf scs g p)).map wT)->(∀(i j:Nat) (t u:Tr),i<=j->us2[i]?=some t->us2[j]?=some u->ltT u t=false)->Q (.ref l) H'
theorem ya:FnScope ["table","counts","bottom"] ["table","counts","bottom"] (af sWby):= .of
theorem ww(F:Fun K "weights_by" "weights_by" sWby f fd)(B:Blt mg)(zF:Cl P w K mg base 2 "fraction" ["top","bottom"] kg):
 FnOk P w K mg base CX0 3 f fd ["table","counts","bottom"] (qI (K:=K)):=by
 refine F.okb ya fun vs H Q E h=>?_;refine hZq fun q_ e_=>?_;obtain⟨D,m,mm,n,scs,us,ws,pl,ls,T,lc,wc,cs,g,rfl,hk,hT,i,aC,hcs,a2,g0,gb,a3,k⟩:=h;subst e_;refine⟨rfl,fun a1 A outer s hr=>?_⟩;have l:(A.deeper (PyProof.Rows.envOfC (Str.ofString "weights_by") (af sWby) s.heap.objs.size f a1)).units+60 < cLine:=by have:=hr.units;omega
 have aB:(["place","count","table","bottom"]:List Str).Nodup:=by decide +kernel
 refine Y3 _ (ag (aD (aG (Dj.call_sI l) rfl B.so PyProof.Rows.boot_sorted (a7 (aY (NC:= ["place","count","table","bottom"]) (mp:= [none,none,some 0,some 2]) (g:=gTup K 2 (b9 (aM 0) (b9 (aM 1) gNil))) rfl (bn (pv 1))
  (fun _ _ _ _ _=>ba (n:=2) rfl (aj (pgA 0 aB) (aj (pgA 1 aB) aQ))) (fun _ _ _ _ _=>aV)
  (fun _ _ _ _ _=>aX (a7 (pv 0) (a7 (ak zF hr (a7 (av aR (pv 1) (aq (r:=rIxL K) am (bT (K:=K) rfl (pv 2) rfl) (pv 0) fun _ _=>rfl)) (a7 (pv 3) a9))) a9)))) a9)))) ?_
 have a5:(20000:Nat)<=sizeLine:=by decide +kernel
 have wl:=aC.len;rw[yR]at wl;refine u8 ?_;refine pG (K':=K) (xs:=wc) (rest:= [some (.ref D.a),some (.int g)]) (a:=lc) rfl (fun Q q=>Y3 _ rfl q) (SqL.of i) fun L nL=>?_;refine U8 (fun j acc H'=>Same H H'/\H' L=some (.lst acc)/\TrsAt H' acc (((cs.take j).map fun p=>(p.1,wf scs g p)).map wT)) ⟨aa nL,a8,by rw[Aa];exact .nil⟩ (fun j acc H' p=>SqL.of (p.1 _ _ i)) ?_ ?_
 . rintro j z acc H' hj ⟨e,hL,hA⟩ ez;refine hZq fun q_ e_=>?_;obtain⟨t',ai,aT⟩:=(aC.mono (Kd.of_same e)).get' ez;rw[yW]at ai;obtain⟨⟨d,c⟩,eq,rfl⟩:=za.mp ai;obtain⟨T',x,y,rfl,a4,hx,hy⟩:=cq aT;unfold TrAt at hx hy;subst hx hy;obtain⟨pm,cb⟩:=hcs _ (z5 eq);subst e_;have au:=hT.same e;have sl:=hT.sl
   have ao:scs[d]?=some (scs.getD d 0):=by
    rw[z8,yS (by omega)]
    rfl
   refine J2 T' _ _ rfl (SqT.of a4) ?_;refine dM ?_;refine U5 _ rfl _ rfl (O4 _ rfl D.a D.C D.dx _ _ rfl au.ob hk.cls hk.ns rfl _ rfl D.psc _ (d:Int) (.int (scs.getD d 0)) rfl rfl (SqL.of au.sc) (ax (by rw[yW,ao];rfl)) (Y7 c _ rfl rfl ⟨cb,a2 _ (z5 ao)⟩ (U6 _ rfl (c*scs.getD d 0) g rfl g0 gb (fun q nq=>?_))))
   have sq:=aa (o:= .tup [.int (fx (c*scs.getD d 0) g), .int (fy (c*scs.getD d 0) g)]) nq;refine⟨two,fun t nt=>?_⟩;have st:=aa (o:= .tup [.int (d:Int), .ref q]) nt;refine CompN.mk hj (by rw[hA.len,yR,yR,zv];omega) (st _ _ (sq _ _ hL)) ⟨az nL ((e.trans sq).trans st),a8,?_⟩
   have kd:=Kd.upd (ys:=acc++ [.ref t]) (st _ _ (sq _ _ hL));rw[aH eq,zd,zd];refine TrsAt.app (.cons ?_ .nil) ((hA.mono (Kd.of_same (sq.trans st))).mono kd);have hq:TrAt (upd (upd H' q (.tup [.int (fx (c*scs.getD d 0) g), .int (fy (c*scs.getD d 0) g)])) t (.tup [.int (d:Int), .ref q])) (.ref q) (frT (wf scs g (d,c))):=cy (st _ _ a8) at_i at_i;exact(cy (a:= .int (d:Int)) (b:=frT (wf scs g (d,c))) a8 at_i hq).mono kd
 . rintro acc H2 ⟨e,hL,hA⟩;rw[wl,zp]at hA;refine U4 L acc _ rfl hL hA (by rw[yR,yR];exact a3) ⟨fun t mt=>?_,fun t mt u mu=>?_,fun D2 ws2 us2 aA hp v a0=>?_⟩
   . obtain⟨q,mq,rfl⟩:=zr.mp mt;refine⟨(Y4 _ _ rfl),?_,?_⟩
     . unfold wT frT Tr.pure Trs.pure Trs.pure Tr.pure Trs.pure Tr.pure Trs.pure;simp[Trs.pure,Tr.pure]
     . unfold wT frT;simp[Tr.depth,Trs.depth]
   . refine hZq fun q_ e_=>?_;obtain⟨q,mq,rfl⟩:=zr.mp mt;obtain⟨q',a6,rfl⟩:=zr.mp mu;subst e_;exact dF (fi fK (fi (dF (fi fK (fi fK bq))) bq))
   . have sD:=aa (o:= .lst ws2) aA;exact k D2 _ ws2 us2 (e.free aA) (e.trans sD) a8 (v.mono (Kd.of_same sD)) hp a0
end K46
namespace L2
open PySem PySem.Spec PyProof.Rows
theorem fY{Q:VK}(Pv:Nat->List V->Hp->Prop)(h0:Pv 0 [] (upd H1 D (.lst [])))(hs:∀(i:Nat) acc H,i < n->Pv i acc H->tc (some (.int (0+(i:Int)))::rest) H fun b H5=>if b=true then te (some (.int (0+(i:Int)))::rest) H5 (CompN n i D acc Pv)else CompS n i acc Pv H5)(hd:∀acc H,Pv n acc H->Q (.ref D) H):jT (Itr 0 n) D tc te rest Q H1:=by
 refine Y3 (fun i m acc H=>m=n - i/\i<=n/\Pv i acc H) (Y8 n (by simp) (zc _) h0) ?_
 rintro i m acc H ⟨rfl,hi,p⟩;by_cases a:i < n
 . refine .inr ⟨a,fun x H' y=>⟨ext1,?_⟩⟩;obtain⟨e,y⟩:=y;subst e y;exact hs i acc _ a p
 . have e:i=n:=by omega
   subst e;exact .inl ⟨yV _,hd acc H p⟩
end L2
namespace Tre
open PySem PySem.Spec PyProof.Rows L2
variable{ts us:List Tr}
theorem t8(h:ts.length≠us.length):eqTs ts us=false:=by
 rw[dE,Bool.and_eq_false_iff];right;simp[h]
theorem sI{m:Addr}(hu:A.units+50 < cLine)(I:Inv X pins σ H s)(h1:H l=some (.lst vs))(h2:H m=some (.lst ws))(k1:TrsAt H vs ts)(k2:TrsAt H ws us)(hp:Trs.pure ts\/Trs.pure us)(hd:Trs.depth ts<=40):
 SeqAt.RcAt A s (.ref l) (.ref m) (eqTs ts us)/\SeqAt.RcNeAt A s (.ref l) (.ref m) (!eqTs ts us):=by
 obtain⟨as,r1,a,_⟩:=I.list (SqL.of h1);obtain⟨bs,r2,p2,_⟩:=I.list (SqL.of h2);have l1:=k1.len;have l2:=k2.len;have g:=r1.length;have f:=r2.length;by_cases z:ts.length=us.length
 . have hsz:as.toArray.size=bs.toArray.size:=by rw[yX,yX];omega
   have he:=fun j (d:j < as.toArray.size) (g2:j < bs.toArray.size)=>kH (A:=A.in1) I (by show A.units+1+42 < cLine;omega) k1 k2 hp hd r1 r2 j d g2
   have c:=SeqAt.RcAt.lists (A:=A) (e:=eqJ ts us) a.isList p2.isList hsz (by omega) he
   have b:=SeqAt.RcNeAt.lists (A:=A) (e:=eqJ ts us) a.isList p2.isList hsz (by omega) he
   have e:(List.range as.toArray.size).all (eqJ ts us)=eqTs ts us:=by
    rw[dE,<-z,Nat.min_self];have:as.toArray.size=ts.length:=by rw[yX];omega
    rw[this];simp
   rw[e]at c b;exact⟨c,b⟩
 . have hsz:(as.toArray.size !=bs.toArray.size)=true:=by
    rw[yX,yX];simp only[bne_iff_ne,ne_eq];omega
   rw[t8 z];exact⟨SeqAt.RcAt.lists_lengths a.isList p2.isList hsz (by omega),SeqAt.RcNeAt.lists_lengths a.isList p2.isList hsz (by omega)⟩
theorem be{M:Model}{Q:Array Value->Shared->Prop}(hl:s.heap.get? l=some {cls:= .type "list",data:= .seq items n})(h:Q items s):wpAny M A (Builtin.List.listItems (.ref l)) Q E s:=by
 unfold Builtin.List.listItems;refine wpAny_bind ?_;unfold seqItems?;refine wpAny_bind (wpAny_load hl ?_);exact wpAny_pure (wpAny_pure h)
theorem jB(l b:Addr)(items items2:Array Value)(n n2:Nat):∀(k i:Nat) (q:List (Bool×Bool)),items.size - i=k->
 Meets (Builtin.«list.__eq__.loop» {pos:= [Value.ref l,Value.ref b,rawInt (i:Int),rawInt 0]}) (fun A R s=>s.heap.get? l=some {cls:= .type "list",data:= .seq items n}/\s.heap.get? b=some {cls:= .type "list",data:= .seq items2 n2}/\
  bD A.in1 s (items.toList.drop i) (items2.toList.drop i) q/\R (.ok (.ret (.bool (lexV (decide (items.size < items2.size)) q)))) s):=by
 intro k
 induction k with
 |zero=>
  intro i q hk prog w A R s h;obtain⟨hl,hb,hx,h⟩:=h;have e1:items[i]?=none:=by simp;omega
  have d1:items.toList.drop i= []:=by simp;omega
  rw[d1]at hx
  have hq:q= []:=by
   cases h2:items2.toList.drop i<;>(rw[h2]at hx;unfold bD at hx;exact hx)
  subst hq;refine wpAny_bind (be hl (wpAny_bind (be hb ?_)));show wpAny _ _ (match (items[i]?,items2[i]?)with|(some x,some y)=>_|_=>_) _ _ _
  rw[e1];refine wpAny_bind (be hl (wpAny_bind (be hb ?_)));exact wpAny_pure h
 |succ k j=>
  intro i q hk prog w A R s h;obtain⟨hl,hb,hx,h⟩:=h;have hi:i < items.size:=by omega
  have d1:items.toList.drop i=items[i]::items.toList.drop (i+1):=by
   rw[List.drop_eq_getElem_cons (by simpa using hi)]
   simp
  refine wpAny_bind (be hl (wpAny_bind (be hb ?_)));show wpAny _ _ (match (items[i]?,items2[i]?)with|(some x,some y)=>_|_=>_) _ _ _
  rw[d1]at hx;by_cases a:i < items2.size
  . have f:items2.toList.drop i=items2[i]::items2.toList.drop (i+1):=by
     rw[List.drop_eq_getElem_cons (by simpa using a)]
     simp
    rw[f]at hx;rw[zY hi,zY a]
    cases q with
    |nil=>exact hx.elim
    |cons p q=>
     obtain⟨e,lo⟩:=p;obtain⟨he,c,d⟩:=hx;refine wpAny_bind (he prog w _ _ ?_)
     cases e with
     |true=>
      refine wpAny_pure ⟨plainId_quiet MeetsSeq3.plain_eq_loop _,codeAny_builtin MeetsSeq3.entry_eq_loop ?_⟩;rw[Around.under_plainId MeetsSeq3.plain_eq_loop _];have:=j (i+1) q (by omega) prog w A R s ⟨hl,hb,d rfl,h⟩
      exact this
     |false=>
      refine wpAny_bind (be hl (wpAny_bind (be hb ?_)));show wpAny _ _ (match items[i]?,items2[i]?,CmpOp.Lt with|some _,some _,CmpOp.Eq=>_|some _,some _,CmpOp.NotEq=>_|some x,some y,x_1=>_|_,_,_=>_) _ _ _
      rw[zY hi,zY a];refine wpAny_bind (c rfl prog w _ _ ?_);exact wpAny_pure h
  . have g:items2[i]?=none:=by simp;omega
    have f:items2.toList.drop i= []:=by simp;omega
    rw[f]at hx;have hq:q= []:=by unfold bD at hx;exact hx
    subst hq;rw[zY hi,g];refine wpAny_bind (be hl (wpAny_bind (be hb ?_)));exact wpAny_pure h
theorem kE(l b:Addr)(items items2:Array Value)(n n2:Nat)(q:List (Bool×Bool)):
 Meets (Builtin.«list.__lt__» ⟨[.ref l, .ref b],[]⟩)
  (fun A R s=>s.heap.get? l=some {cls:= .type "list",data:= .seq items n}/\s.heap.get? b=some {cls:= .type "list",data:= .seq items2 n2}/\
   bD A.in1 s items.toList items2.toList q/\R (.ok (.ret (.bool (lexV (decide (items.size < items2.size)) q)))) s):=by
 intro prog w A R s h;obtain⟨hl,hb,hx,h⟩:=h;refine wpAny_bind (m:=slotArgs _ _ _) (wpAny_pure ?_);refine wpAny_bind (wpAny_isInstance (T:="list") (b:=true) (Y3 _ hb rfl) (by first|exact AutoSeq1.sub_list_list|exact PySem.F.sub_list_list|rfl) ?_)
 refine wpAny_pure ⟨plainId_quiet MeetsSeq3.plain_eq_loop _,codeAny_builtin MeetsSeq3.entry_eq_loop ?_⟩;rw[Around.under_plainId MeetsSeq3.plain_eq_loop _];exact jB l b items items2 n n2 _ 0 q rfl prog w A R s ⟨hl,hb,by simpa using hx,h⟩
open PySem.W Srt
theorem iN{b:Addr}(hl:s.heap.get? l=some {cls:= .type "list",data:= .seq items n})(hb:s.heap.get? b=some {cls:= .type "list",data:= .seq items2 n2})(hu:A.units < cLine)(hx:bD A.in1 s items.toList items2.toList q):LtAt A s (.ref l) (.ref b) (lexV (decide (items.size < items2.size)) q):=by
 intro prog w E Q h
 exact richCompare_meets_room (op:= .Lt) ⟨_,hl,rfl⟩ ⟨_,hb,rfl⟩ PySem.F.slot_list_lt PySem.F.entry_list_lt (PySem.F.args_list_lt_2 _ _) (kE l b items items2 n n2 q)
  ⟨hl,hb,hx,show Value.bool (lexV (decide (items.size < items2.size)) q)≠Value.notImplemented/\Q (.bool (lexV (decide (items.size < items2.size)) q)) s from⟨(fun x=>nomatch x),h⟩⟩ hu
def rLt2:R2:=fun x y H Q=>∃(l b:Addr) (u v:Int),x= .ref l/\y= .ref b/\H l=some (.lst [.int u, .int v])/\H b=some (.lst [.int 0, .int 0])/\Q (.bl (decide (u < 0\/(u=0/\v < 0)))) H
theorem wm(hu:X.A.units+50 < cLine):OpR X (compareOp .Lt) rLt2:=by
 intro pins s σ H x y vx vy Q I rx ry h;obtain⟨l,b,u,v,rfl,rfl,hl,hb,q⟩:=h;cases rx;cases ry;obtain⟨its,n,r,e,z⟩:=I.lst hl;obtain⟨f,n2,r2,p,z2⟩:=I.lst hb;have g:X.A.in1.units+40+1 < cLine:=by show X.A.units+1+40+1 < cLine;omega
 have at_:∀a c:Int,TrsAt H [.int a, .int c] [.int a, .int c]:=fun a c=> .cons (by unfold TrAt;rfl) (.cons (by unfold TrAt;rfl) .nil)
 have j:∀a c:Int,Cm (.int a) (.int c):=fun a c=>by unfold Cm;trivial
 have i:Cms [.int u, .int v] [.int 0, .int 0]:=by
  unfold Cms;cases k:Tre.eqT (.int u) (.int 0)
  . exact .inr ⟨rfl,j _ _⟩
  . refine .inl ⟨rfl,?_⟩;unfold Cms;cases k2:Tre.eqT (.int v) (.int 0)
    . exact .inr ⟨rfl,j _ _⟩
    . exact .inl ⟨rfl,by unfold Cms;trivial⟩
 have hx:=eF (A:=X.A.in1) I g (fun d pp cc a1 t b1 b2=>dG I 40 d pp cc a1 t b1 b2 g) (by simp[Trs.depth,Tr.depth]) (.inl (by simp[Trs.pure,Tr.pure])) i (at_ u v) (at_ 0 0) r r2
 have:=iN (A:=X.A) e p (by omega) (by simpa using hx)
 have l2:=r.length;have l3:=r2.length
 have o:lexV (decide (its.toArray.size < f.toArray.size)) (qs [.int u, .int v] [.int 0, .int 0])=decide (u < 0\/(u=0/\v < 0)):=by
  have m:decide (its.toArray.size < f.toArray.size)=decide (([.int u, .int v]:List Tr).length < ([.int 0, .int 0]:List Tr).length):=by
   rw[yX,yX,<-l2,<-l3];rfl
  rw[m];refine aU ?_;rw[df,decide_eq_true_iff];simp[codes,code,LtCs,LtC]
 rw[o]at this;exact this X.prog X.w X.xe _ (Y5 (.bl _) H I rfl q)
end Tre
namespace K46
open PySem L2 Mth Tre Wd Su Tw Fm
def Ngv(n:Nat)(T:Wg.Tb)(i:Nat):Prop:=T.ln i n < 0\/(T.ln i n=0/\T.ln i (n+1) < 0)
def ButY(T0:Addr)(D:TA)(H H':Hp):Prop:=∀x o,x≠T0->x≠D.a->x≠D.pss->x≠D.ph->H x=some o->H' x=some o
variable{D:TA}{us:List Tr}{f:Nat->Int}{T:Wg.Tb}
theorem ButY.trans(a:ButY T0 D H H1)(b:ButY T0 D H1 H2):ButY T0 D H H2:=fun x o h0 h1 h2 h3 e=>b x o h0 h1 h2 h3 (a x o h0 h1 h2 h3 e)
theorem ButY.of_same(s:Same H H'):ButY T0 D H H':=fun x o _ _ _ _ e=>s _ _ e
theorem ButY.of_x(s:ButX D H H'):ButY T0 D H H':=fun x o _ h1 h2 h3 e=>s x o h1 h2 h3 e
theorem ButY.of_t(s:ButT T0 H H'):ButY T0 D H H':=fun x o h0 _ _ _ e=>s x o h0 e
theorem Lm.same(s:Same H H')(h:Lm T0 H):Lm T0 H':=by
 rcases h with h|⟨c,h,h2⟩
 . exact .inl (s _ _ h)
 . exact .inr ⟨c,s _ _ h,s _ _ h2⟩
theorem Lm.butX{ls:List V}(t:Tab D m mm n scs us ws pl ls T H)(b:ButX D H H')(h:Lm T0 H):Lm T0 H':=by
 have k:∀ {x:Addr} {o:HO},H x=some o->(∀C dx fs,o≠ .ins C dx fs)->(∀xs,o≠ .lst xs)->H' x=some o:=fun{x o} e h1 h2=>by
  refine b x o (fun z=>?_) (fun z=>?_) (fun z=>?_) e
  . rw[z,t.ob]at e;exact h1 _ _ _ (z9 e).symm
  . rw[z,t.sd]at e;exact h2 _ (z9 e).symm
  . rw[z,t.hd]at e;exact h2 _ (z9 e).symm
 rcases h with h|⟨c,h,h2⟩
 . exact .inl (k h (by intro a b c z;cases z) (by intro a z;cases z))
 . exact .inr ⟨c,k h (by intro a b c z;cases z) (by intro a z;cases z),k h2 (by intro a b c z;cases z) (by intro a z;cases z)⟩
theorem Lm.tbl(h:Lm T0 H):∃ps,H T0=some (.tbl ps):=h.tb
theorem ButY.free{x:Addr}{ls:List V}(t:Tab D m mm n scs us ws pl ls T H')(l:Lm T0 H')(b:ButY T0 D H H')(h:H' x=none):H x=none:=by
 cases q:H x with
 |none=>rfl
 |some o=>
  obtain⟨ps,e⟩:=l.tbl;have:=b x o (fun z=>by rw[z,e]at h;cases h) (fun z=>by rw[z,t.ob]at h;cases h) (fun z=>by rw[z,t.sd]at h;cases h) (fun z=>by rw[z,t.hd]at h;cases h) q
  rw[this]at h;cases h
theorem nV{f:Nat->Nat}:nv (Wg.ls m f)=(Wg.ls m fun i=>((f i:Nat):Int)).map V.int:=by
 unfold nv Wg.ls;rw[Aj,Aj];rfl
theorem dN(h:i < m):(Wg.ls m f).getD i 0=f i:=by
 rw[z8,Wg.ls_at h];rfl
theorem cut2:cutV ((Wg.ls (n+2) f).map V.int) (some (-2)) none= [.int (f n), .int (f (n+1))]:=by
 have l:((Wg.ls (n+2) f).map V.int).length=n+2:=by rw[yR,Wg.ls_len]
 have h1:HT.sIx (n+2) 0 (some (-2))=n:=by
  show(if (-2:Int) < 0 then((-2:Int)+((n+2:Nat):Int)).toNat else min (-2:Int).toNat (n+2))=n;rw[if_pos (by decide)]
  omega
 have h2:HT.sIx (n+2) (n+2) none=n+2:=rfl;unfold cutV;rw[l,h1,h2];refine List.ext_getElem? fun i=>?_;rw[List.getElem?_take,List.getElem?_drop,yW];by_cases hi:i < 2
 . rw[if_pos (by omega),Wg.ls_at (by omega)]
   rcases Nat.lt_or_ge i 1 with z|z
   . have:i=0:=by omega
     subst this;rfl
   . have:i=1:=by omega
     subst this;rfl
 . rw[if_neg (by omega)]
   exact(Ar (by simp;omega)).symm
instance {n:Nat} {T:Wg.Tb} {i:Nat}:Decidable (Ngv n T i):=by unfold Ngv;infer_instance
def qV(T0:Addr):Sp:=fun vs H Q _=>∃(D:TA) (m n C:Nat) (scs:List Int) (us:List Tr) (ws:List V) (pl:Addr) (ls:List V) (L:Nat->Nat->Int) (T:Wg.Tb),vs= [.ref D.a]/\Tk K D.C/\Tab D m m n scs us ws pl ls T H/\Wb m n L scs C/\Okt m n L T/\Lm T0 H/\n < 60/\
 (∀pl' ls' T' H',(pl'=pl\/H pl'=none)->ButY T0 D H H'->Lm T0 H'->Tab D m m n scs us ws pl' ls' T' H'->Okt m n L T'->(∀i,i < m->T'.sd i < m->¬Ngv n T' i)->Q .non H')/\
 ∀T' i,Okt m n L T'->i < m->T'.sd i < m->Ngv n T' i->(∀c,c < n->T'.ln i c<=0)->False
theorem scRef:FnScope ["table","below","at","line","column"] ["table"] (af sRef):= .of
theorem wL{f:Addr}(F:Fun K "refuted" "refuted" sRef f fd)(B:Blt mg)(zS:Cl P w K mg base 2 "slack_lines" ["table"] (iH (K:=K)))(zL:Cl P w K mg base 2 "least_by" ["numbers","places"] (n9 (K:=K) T0))(zT:Cl P w K mg base 2 "turn" ["table","at","column"] (k9 (K:=K))):
 FnOk P w K mg base CX0 3 f fd ["table"] (qV (K:=K) T0):=by
 refine F.okb scRef fun vs H Q E h=>?_;refine hZq fun q_ e_=>?_;obtain⟨D,m,n,C,scs,us,ws,pl,ls,L,T,rfl,hk,hT,hW,hO,dj,d6,kn,kw⟩:=h;subst e_;refine⟨rfl,fun c3 A outer s hr=>?_⟩;have aB:Room 2 _:=hr.mono (by decide)
 have bi:(A.deeper (PyProof.Rows.envOfC (Str.ofString "refuted") (af sRef) s.heap.objs.size f c3)).units+50 < cLine:=by have:=hr.units;omega
 have d4:(["at","table"]:List Str).Nodup:=by decide +kernel
 have bC:(["column","line"]:List Str).Nodup:=by decide +kernel
 refine Y3 _ (ag (dy PassesOwn.never (cC cV)
  (ac (cK (i:=1) (NC:= ["at","table"]) (mp:= [none,some 0]) rfl scRef.nd rfl rfl rfl (cD (K:=K) rfl (ak zS aB (a7 (pv 0) a9)))
   (fun _ _ _ _ _=>pgA 0 d4) (fun _ _ _ _ _=>cp (aw (wm bi) (gZ (r:=rSlL K) jg (aq (r:=rIxL K) am (bT (K:=K) rfl (pv 1) rfl) (pv 0) fun _ _=>rfl) (jp (br aW ad)) jq) (bW (a7 ad (a7 ad a9))) (aE _))) (fun _ _ _ _ _=>pv 0))
  (ac (psA 2 scRef.nd (ak zL aB (a7 (aI (pv 0) rfl) (a7 (pv 1) a9))))
  (ac (bS (aw hU (pv 2) db (aE _)) (ag (aD db)) aS)
  (ac (psR 3 scRef.nd (aq am (aI (pv 0) rfl) (pv 2) fun _ _=>rfl))
  (ac (psA 4 scRef.nd (ak zL aB (a7 (aI (pv 0) rfl) (a7 (aY (NC:= ["column","line"]) (mp:= [none,some 3]) rfl (cB rfl B.ra (a7 (aG ar rfl B.le PySem.boot_len (a7 (aI (pv 0) rfl) a9)) a9))
   (fun _ _ _ _ _=>pgA 0 bC) (fun _ _ _ _ _=>cp (aw dA (aq (r:=rIxL K) am (pv 1) (pv 0) fun _ _=>rfl) ad (aE _))) (fun _ _ _ _ _=>pv 0)) a9))))
  (ac (bS (aw hU (pv 4) db (aE _)) gW aS)
  (ag (bA (ak zT aB (a7 (pv 0) (a7 (pv 2) (a7 (pv 4) a9)))))))))))))) ?_
 have d7:(20000:Nat)<=sizeLine:=by decide +kernel
 have m64:=hT.m64;have n64:=hT.n64;have fl:∀b pl,(flds D pl b).lookup (Str.ofString "lines")=some (.ref pl):=fun b pl=>rfl;obtain⟨MM,d9⟩:∃MM:Int,MM=(C:Int)+1:=⟨_,rfl⟩
 refine Y3 (fun k σ H'=>(∃v1 v2 v3 v4,σ= [some (.ref D.a),v1,v2,v3,v4])/\∃pl' ls' T',(pl'=pl\/H pl'=none)/\ButY T0 D H H'/\Lm T0 H'/\Tab D m m n scs us ws pl' ls' T' H'/\Okt m n L T'/\∃Tf rf qf J,Wg.Rn m n (Wg.V0 m L) (Wg.R0 L) MM Tf rf qf J/\Tf J=T'/\k=2^(m+n) - J) (J4 (2^(m+n) - 0) (Y6 none none none none rfl) pl ls T (.inl rfl) ⟨fun x o _ _ _ _ e=>e,dj,hT,hO,fun _=>T,J2 (fun _=>0) (fun _=>0) 0 ⟨hO.inv,hO.pm,fun j hj=>absurd hj (AH _),fun j hj=>absurd hj (AH _)⟩ rfl rfl⟩) ?_
 intro k σ H1 z_;refine hZq fun q_ e_=>?_;obtain⟨⟨v1,v2,v3,v4,rfl⟩,pl',ls',T',np,bY,cd,tb,O,Tf,rf,qf,J,b7,eT,rfl⟩:=z_;subst e_;refine Y3 true rfl (iteT ?_);refine Y3 _ (fun σ' H' h=>h) ?_;obtain⟨bb,bl⟩:=hW.bnd O.inv O.pm;have bj:∀(p:Nat->Bool),((List.range m).filter p).length<=m:=fun p=>z7 (zu _ _) (by rw[A3];exact yV _)
 have b6:∀(p:Nat->Bool) (j:Nat),((List.range j).filter p).length<=j:=fun p j=>z7 (zu _ _) (by rw[A3];exact yV _)
 refine cH ?_;refine cA rfl ?_;refine U7 _ rfl D m m n scs us ws pl' ls' T' ⟨rfl,hk,tb,fun l H2 nl s1 hl=>?_⟩;have tb1:=tb.same s1;refine Y8 l rfl ⟨_,SqL.of hl⟩ (fun L' nL=>?_);refine eN (xs:=nv (slk m m T')) (fun j acc H3=>Same H2 H3/\H3 L'=some (.lst acc)/\acc=nv (((slk m m T').take j).filter fun x=>decide (Ngv n T' x))) ⟨aa nL,a8,rfl⟩ (fun j acc H3 p=>SqL.of (p.1 _ _ hl)) ?_ ?_
 . intro j x acc H3 hj ex z_;refine hZq fun q_ e_=>?_;obtain⟨s2,hL,rfl⟩:=z_;unfold nv at ex;rw[yW]at ex;obtain⟨r,er,rfl⟩:=za.mp ex;obtain⟨rm,rs⟩:=slk_mem.mp (z5 er);have a6:=tb1.same s2;obtain⟨q,eq,hq,_,_⟩:=a6.ro.2 r rm;subst e_;have al:(((slk m m T').take j).filter fun x=>decide (Ngv n T' x)).length<=m:=z7 (zu _ _) (z7 (List.length_take_le' _ _) (bj _));refine O4 _ rfl D.a D.C D.dx _ _ rfl a6.ob hk.cls hk.nl (fl _ _) _ rfl pl' _ (r:Int) _ rfl rfl (SqL.of a6.li) (ax eq) (Y3 2 rfl (U9 _ rfl q _ rfl (SqL.of hq) (fun p np=>?_)));rw[cut2];have sp:=aa (o:= .lst [.int (T'.ln r n), .int (T'.ln r (n+1))]) np;refine⟨two,fun l2 cr=>?_⟩;have v:=aa (o:= .lst [.int 0, .int 0]) cr;refine O9 p l2 _ _ rfl rfl (v _ _ a8) a8 (Y3 _ rfl ?_);by_cases z:Ngv n T' r
   . rw[show decide (T'.ln r n < 0\/(T'.ln r n=0/\T'.ln r (n+1) < 0))=true from decide_eq_true z];refine iteT ?_;refine Y3 _ rfl (CompN.mk hj (by unfold nv;rw[yR];omega) (v _ _ (sp _ _ hL)) ⟨az nL ((s2.trans sp).trans v),a8,?_⟩)
     rw[aH er,zx];simp[z,nv]
   . rw[show decide (T'.ln r n < 0\/(T'.ln r n=0/\T'.ln r (n+1) < 0))=false from decide_eq_false z];refine iteF ?_;refine CompS.mk hj ⟨(s2.trans sp).trans v,v _ _ (sp _ _ hL),?_⟩;rw[aH er,zx];simp[z]
 intro acc H3 z_;refine hZq fun q_ e_=>?_;obtain⟨s2,hL,rfl⟩:=z_;have c8:(nv (slk m m T')).length=(slk m m T').length:=by unfold nv;rw[yR]
 rw[c8,zp]at hL;have a0:=tb1.same s2;have u:=(cd.same s1).same s2;have bI:ButY T0 D H H3:=bY.trans (.of_same (s1.trans s2));obtain⟨bw,bF⟩:∃bw,bw=(slk m m T').filter fun x=>decide (Ngv n T' x):=⟨_,rfl⟩;subst e_;rw[<-bF]at hL;have aT:∀x,x∈bw↔(x < m/\T'.sd x < m)/\Ngv n T' x:=fun x=>by rw[bF,zC,slk_mem,decide_eq_true_iff]
 refine ah ?_;refine O4 _ rfl D.a D.C D.dx _ _ rfl a0.ob hk.cls hk.nd rfl _ rfl D.pss L' (Wg.ls m fun i=>((T'.sd i:Nat):Int)) bw rfl (by rw[<-nV];exact SqL.of a0.sd) (SqL.of hL) (fun x mx=>by rw[Wg.ls_len];exact((aT x).mp mx).1.1) ⟨u,fun e0 H4 bt au=>?_,fun r mr lst H4 bt au=>?_⟩
 ·
  obtain⟨dl,bg⟩:=u.tbl;have g:=a0.butT bg bt;refine ah ?_;refine O5 _ rfl rfl _ rfl ?_;rw[decide_eq_true rfl];refine iteT ?_;refine kn pl' ls' T' H4 np (bI.trans (.of_t bt)) au g O fun i hi hs z=>?_;have:=(aT i).mpr ⟨⟨hi,hs⟩,z⟩;rw[e0]at this;cases this
 refine hZq fun q_ e_=>?_;obtain⟨dl,bg⟩:=u.tbl;have g:=a0.butT bg bt;have dI:=bI.trans (.of_t (D:=D) bt);obtain⟨⟨d,a5⟩,a2⟩:=(aT r).mp mr;obtain⟨q,eq,hq,_,_⟩:=g.ro.2 r d;subst e_;refine ah ?_;dsimp only;refine ck (fun σ' H'=>H4=H'/\σ'= [some (.ref D.a),some (.ref L'),some (.int (r:Int)),v3,v4]) ?_ fun nx a4=>?_;rotate_left
 . refine O5 _ rfl rfl _ rfl ?_;rw[decide_eq_false (by intro z;cases z)]
   exact iteF (a4 _ _ ⟨rfl,rfl⟩)
 rintro σ' H' ⟨rfl,rfl⟩;refine O4 _ rfl D.a D.C D.dx _ _ rfl g.ob hk.cls hk.nl (fl _ _) _ rfl pl' _ (r:Int) _ rfl rfl (SqL.of g.li) (ax eq) ?_;refine ah ?_;refine Y9 _ rfl D.a D.C D.dx _ _ rfl g.ob hk.cls hk.nh rfl ?_;refine vQ ?_;refine cA rfl ?_;refine Y9 _ rfl D.a D.C D.dx _ _ rfl g.ob hk.cls hk.nh rfl (Y5 D.ph _ rfl (.inl (SqL.of g.hd)) (U8 (n:Int) (by rw[bf]) (by omega) (by omega) (fun L2 bR=>?_)))
 refine fY (n:=n) (fun j acc H5=>Same H4 H5/\H5 L2=some (.lst acc)/\acc=nv ((List.range j).filter fun c=>decide (0 < T'.ln r c))) ⟨aa bR,a8,rfl⟩ ?_ ?_
 . rintro c acc H5 hc ⟨s5,ai,rfl⟩;rw[Ax];refine Y3 _ rfl (O8 _ rfl q _ (c:Int) _ rfl rfl (SqL.of (s5 _ _ hq)) (ax (c5 (by omega))) _ 0 rfl rfl _ rfl ?_)
   by_cases z:0 < T'.ln r c
   . rw[decide_eq_true z];refine iteT ?_;refine Y3 _ rfl (CompN.mk hc (by unfold nv;rw[yR];have:=b6 (fun c=>decide (0 < T'.ln r c)) c;omega) ai ⟨az bR s5,a8,?_⟩)
     rw[zH,zx];simp[z,nv]
   . rw[decide_eq_false z];refine iteF ?_;refine CompS.mk hc ⟨s5,ai,?_⟩;rw[zH,zx];simp[z]
 intro acc H5 z_;refine hZq fun q_ e_=>?_;obtain⟨s5,ai,rfl⟩:=z_;have b8:=g.same s5;have a1:=au.same s5;have cn:=dI.trans (.of_same (D:=D) (T0:=T0) s5);obtain⟨pc,bv⟩:∃pc,pc=(List.range n).filter fun c=>decide (0 < T'.ln r c):=⟨_,rfl⟩;rw[<-bv]at ai;have aA:∀c,c∈pc↔c < n/\0 < T'.ln r c:=fun c=>by rw[bv,zC,zZ,decide_eq_true_iff]
 obtain⟨d8,dV⟩:=a1.tbl;subst e_;refine Y6 D.ph L2 (Wg.ls n fun i=>((T'.hd i:Nat):Int)) pc ⟨rfl,by rw[<-nV];exact SqL.of b8.hd,SqL.of ai,fun x mx=>by rw[Wg.ls_len];exact((aA x).mp mx).1,a1,fun e0 H6 aC ao=>?_,fun c mc bB H6 aC ao=>?_⟩
 . refine(kw T' r O d a5 a2 fun c hc=>?_).elim;refine Classical.byContradiction fun y=>?_;have:=(aA c).mpr ⟨hc,by omega⟩
   rw[e0]at this;cases this
 . have a3:=b8.butT dV aC;obtain⟨t,dn⟩:=(aA c).mp mc;refine ah ?_;dsimp only;refine ck (fun σ' H'=>H6=H'/\σ'= [some (.ref D.a),some (.ref L'),some (.int (r:Int)),some (.ref q),some (.int (c:Int))]) ?_ fun nx a4=>?_;rotate_left
   . refine O5 _ rfl rfl _ rfl ?_;rw[decide_eq_false (by intro z;cases z)]
     exact iteF (a4 _ _ ⟨rfl,rfl⟩)
   rintro σ' H' ⟨rfl,rfl⟩;refine J5 _ rfl _ rfl _ rfl D m m n scs us ws pl' (Y6 ls' T' r c ⟨rfl,hk,a3,d,t,by omega,O.inv.pos,bN bb hW.big,fun a b ha hb=>bN (bl a b ha hb) hW.big,fun c2 cI H7 n7 bx d2=>?_⟩)
   have vn:∀i,i < m->(Ngv n T' i↔Wg.val n MM T' i < 0):=fun i hi=>by
    unfold Ngv Wg.val;refine Wg.lex_neg ?_ (by omega)
    have:=bl i (n+1) hi (by omega)
    omega
   have S:Wg.Stp m n MM T' r c:=by
    refine⟨d,t,a5,(vn r d).mp a2,fun i hi hs hv=>?_,dn,fun c' bP d0=>?_⟩
    . have:=lst i ((aT i).mpr ⟨⟨hi,hs⟩,(vn i hi).mpr hv⟩);rw[dN d,dN hi]at this;omega
    . have:=bB c' ((aA c').mpr ⟨bP,d0⟩);rw[dN t,dN bP]at this;omega
   subst eT;refine hZq fun q_ e_=>?_;obtain⟨d5,d3,c4,cm,e2⟩:=b7.snoc S;subst e_;refine Y8 (2^(m+n) - (J+1)) (Nat.sub_lt_sub_left b7.few (zG J)) (Y6 _ _ _ _ rfl) (U4 c2 cI _ (.inr ((cn.trans (.of_t aC)).free a3 ao n7)) ((cn.trans (.of_t aC)).trans (.of_x bx)) (ao.butX a3 bx) d2 ⟨⟨Wg.piv_inv O.inv d t (by omega),O.pm.piv d t,O.st.piv O.inv d t a5 (by omega)⟩,d5,J2 d3 c4 (J+1) cm e2 rfl⟩)
end K46
namespace L2
open PySem PySem.Spec PyProof.Rows
theorem pI(hc:X.calm=true):cj X (.builtin "max") (fun xs H Q=>∃(p:Addr) (ns:List Int),xs= [.ref p]/\SqL X.K H p (ns.map V.int)/\0 < ns.length/\∀m,m∈ns->(∀x∈ns,x<=m)->Q (.int m) H):=by
 intro pins s σ H xs us Q I r h;obtain⟨p,ns,e,hp,h0,q⟩:=h;subst e
 cases r with
 | @cons _ u _ _ r l=>
  cases l;cases (show u=Value.ref p from r);obtain⟨its,rv,pl,_⟩:=I.list hp;have hi:=me rv;obtain⟨zs,b⟩:=hi.allInts.items;have hl:=pl.isList;rw[b]at hl
  have c:zs.toList.map (·.1)=ns:=by
   rw[<-nums_intItems,<-b];exact hi.numsOf
  have n:zs.size=ns.length:=by rw[<-c,yR,zX]
  have nat_:∀i,i < zs.size->ns[i]?=some (numAt zs i):=fun i a=>by
   rw[<-c,yW,A5];unfold numAt;rw[zY a];rfl
  refine max_intList (I.ok.hd hc) hl (by omega) fun v h' tk hv hk=>?_
  obtain⟨t,rfl⟩:=intItems_at hv;obtain⟨b1,b2⟩:=argBest_gt (numAt zs) (zs.size - 1);generalize argBest (fun i j=>decide (numAt zs i > numAt zs j)) (zs.size - 1)=k at*;refine Y5 (.int (numAt zs k)) H (I.kept hk) ⟨_,rfl⟩ (q _ (z5 (nat_ k (by omega))) fun x f=>?_)
  obtain⟨j,d,g⟩:=Ac f;have:=nat_ j (by omega)
  rw[yS d,g]at this;rw[z9 this];exact b2 j (by omega)
end L2
namespace K46
open PySem L2 Mth Tre Wd Su Tw Fm
theorem pJ(hK:X.K=K):cj X (.builtin "len") (fun xs H Q=>∃p ys,xs= [.ref p]/\(SqL K H p ys\/SqT K H p ys)/\Q (.int (ys.length:Int)) H):=by
 subst hK;exact ar
theorem pS{r:R2}{ta tb:TE}(h:ta σ H fun x H1=>tb σ H1 fun y H2=>r x y H2 Z.rt):tRet (tOp r ta tb) Z σ H:=h
noncomputable def lno(m n:Nat)(T:Wg.Tb)(k c:Nat):Int:=(Wg.sumN m fun i=>if T.sd i=k then T.ln i c else 0)+if c < n/\T.hd c=k then T.bot else 0
variable{T:Wg.Tb}
theorem jz(P:Wg.Pm m n T){c:Nat}(hi:i < m):lno m n T (T.sd i) c=T.ln i c:=by
 unfold lno;rw[Wg.sumN_one hi fun j a hne=>if_neg fun e=>hne (P.inj a hi e),if_pos rfl,if_neg fun z=>P.disj hi z.1 z.2.symm,Ap]
theorem eE{k c:Nat}(h:∀i,i < m->T.sd i≠k):lno m n T k c=if c < n/\T.hd c=k then T.bot else 0:=by
 unfold lno;rw[Wg.sumN_zero fun i hi=>if_neg (h i hi),Ax]
theorem jA{k:Nat}:lno m n T k n*M+lno m n T k (n+1)=Wg.pt m n M T k:=by
 unfold lno;rw[if_neg (by omega),if_neg (by omega),Ap,Ap]
 unfold Wg.pt;rw[<-Wg.sumN_mulr,<-Wg.sumN_add];refine Wg.sumN_congr fun i hi=>?_;unfold Wg.val;split<;>grind
theorem lZ{k c:Nat}(P:Wg.Pm m n T)(hb:T.bot.natAbs<=C)(hl:∀i c,i < m->c < n+2->(T.ln i c).natAbs<=C)(hc:c < n+2):(lno m n T k c).natAbs<=C:=by
 by_cases h:∃i,i < m/\T.sd i=k
 . obtain⟨i,hi,rfl⟩:=h;rw[jz P hi];exact hl i c hi hc
 . rw[eE fun i hi e=>h ⟨i,hi,e⟩];split
   . exact hb
   . exact zc _
theorem mJ{f:Nat->Int}:atI ((Wg.ls (n+2) f).map V.int) (-1)=some (.int (f (n+1))):=by
 have l:((Wg.ls (n+2) f).map V.int).length=n+2:=by rw[yR,Wg.ls_len]
 unfold atI
 have:ixN (n+2) (-1)=some (n+1):=by
  unfold ixN;rw[if_neg (by decide),if_pos (by omega)]
  congr 1;omega
 rw[l,this];exact c5 (by omega)
theorem ir{f:Nat->Int}:atI ((Wg.ls (n+2) f).map V.int) (-2)=some (.int (f n)):=by
 have l:((Wg.ls (n+2) f).map V.int).length=n+2:=by rw[yR,Wg.ls_len]
 unfold atI
 have:ixN (n+2) (-2)=some n:=by
  unfold ixN;rw[if_neg (by decide),if_pos (by omega)]
  congr 1;omega
 rw[l,this];exact c5 (by omega)
theorem sj{H:Hp}:∀ {ps:List Nat},TrsAt H (nv ps) (ps.map fun(p:Nat)=>Tr.int (p:Int))
 | []=> .nil
 |_::_=> .cons at_i sj
theorem u5{k:Nat}:∀ {ps:List Nat},((ps.map fun(p:Nat)=>Tr.int (p:Int)).any fun u=>Tre.eqT u (.int (k:Int)))=decide (k∈ps)
 | []=>by simp
 |p::r=>by
  rw[zh,List.any_cons,u5];unfold Tre.eqT;by_cases e:k=p
  . subst e;simp
  . have:((p:Int)==(k:Int))=false:=by
     rw[beq_eq_false_iff_ne];omega
    rw[this];simp[e]
theorem mem_ls{f:Nat->Nat}{k:Nat}:k∈Wg.ls m f↔∃i,i < m/\f i=k:=by
 unfold Wg.ls;rw[zr];constructor
 . rintro⟨i,hi,e⟩;exact⟨i,zZ.mp hi,e⟩
 . rintro⟨i,hi,e⟩;exact⟨i,zZ.mpr hi,e⟩
def mZ:Sp:=fun vs H Q _=>∃(D:TA) (m mm n:Nat) (scs:List Int) (us:List Tr) (ws:List V) (pl:Addr) (ls:List V) (T:Wg.Tb) (k:Nat),vs= [.ref D.a, .int (k:Int)]/\Tk K D.C/\Tab D m mm n scs us ws pl ls T H/\Wg.Pm m n T/\
 ∀q H',Same H H'->H' q=some (.lst ((Wg.ls (n+2) (lno m n T k)).map V.int))->Q (.ref q) H'
theorem yf:FnScope ["table","number"] ["table","number"] (af sLio):= .of
theorem wR(F:Fun K "line_of" "line_of" sLio f fd)(B:Blt mg):FnOk P w K mg base CX0 1 f fd ["table","number"] (mZ (K:=K)):=by
 refine F.okb yf fun vs H Q E h=>?_;refine hZq fun q_ e_=>?_;obtain⟨D,m,mm,n,scs,us,ws,pl,ls,T,k,rfl,hk,b,hP,q⟩:=h;subst e_;refine⟨rfl,fun ao A outer s hr=>?_⟩;have t:(A.deeper (PyProof.Rows.envOfC (Str.ofString "line_of") (af sLio) s.heap.objs.size f ao)).units+50 < cLine:=by have:=hr.units;omega
 have aA:(["head","table","number"]:List Str).Nodup:=by decide +kernel
 refine Y3 _ (ac (bS (aw (wn t) (pv 1) (aI (pv 0) rfl) (by with_unfolding_all rfl)) (ag (aD (aq am (aI (pv 0) rfl) (cU PySem.F.plainAttrs_list PySem.F.slot_list_index PySem.F.type_list_index oZ (aI (pv 0) rfl) (a7 (pv 1) a9)) fun _ _=>rfl))) aS)
  (ag (aD (av fD (aY (NC:= ["head","table","number"]) (mp:= [none,some 0,some 1]) rfl (bn (aI (pv 0) rfl)) (fun _ _ _ _ _=>pgA 0 aA) (fun _ _ _ _ _=>aV)
   (fun _ _ _ _ _=>cS (aw fO (pv 0) (pv 2) (aE _)) (bT (K:=K) rfl (pv 1) rfl) ad)) (bW (a7 ad (a7 ad a9))))))) ?_
 have aB:(20000:Nat)<=sizeLine:=by decide +kernel
 have n64:=b.n64
 have dep:∀u∈(Wg.ls m T.sd).map fun(p:Nat)=>Tr.int (p:Int),u.depth<=40:=fun u mu=>by
  obtain⟨p,_,rfl⟩:=zr.mp mu;simp[Tr.depth]
 refine Y3 _ rfl (Y9 _ rfl D.a D.C D.dx _ _ rfl b.ob hk.cls hk.nd rfl (Y6 D.pss _ _ (.int (k:Int)) ⟨rfl,.inl b.sd,sj,at_i,dep,by simp[Tr.pure],Y3 _ rfl ?_⟩))
 rw[u5,tQ];by_cases hm:k∈Wg.ls m T.sd
 . rw[decide_eq_true hm];refine iteT ?_;refine hZq fun q_ e_=>?_;obtain⟨i,hi,e⟩:=mem_ls.mp hm;obtain⟨qr,eq,hq,_,_⟩:=b.ro.2 i hi;subst e_;refine Y9 _ rfl D.a D.C D.dx _ _ rfl b.ob hk.cls hk.nl rfl (Y9 _ rfl D.a D.C D.dx _ _ rfl b.ob hk.cls hk.nd rfl ⟨.inl ⟨rfl,_,SqL.of b.sd⟩,Y2 _ rfl D.pss (Wg.ls m fun i=>((T.sd i:Nat):Int)) (k:Int) i ⟨rfl,rfl,by rw[<-nV];exact b.sd,by rw[Wg.ls_at hi,e],fun j hj=>?_,?_⟩⟩)
   . rw[Wg.ls_at (by omega)]
     intro z;have z':T.sd j=k:=by have:=z9 z;omega
     have:=hP.inj (i:=j) (j:=i) (by omega) hi (z'.trans e.symm)
     omega
   . refine O9 pl _ (i:Int) _ rfl rfl (SqL.of b.li) (ax eq) ?_;refine q qr H (fun _ _ e=>e) ?_;rw[hq];have:Wg.ls (n+2) (T.ln i)=Wg.ls (n+2) (lno m n T k):=Wg.ls_congr fun c hc=>by rw[<-e,jz hP hi]
     rw[<-this]
 . rw[decide_eq_false hm];refine iteF (fk ?_);have g:∀i,i < m->T.sd i≠k:=fun i hi e=>hm (mem_ls.mpr (Y3 i hi e));dsimp only;refine pS ?_;refine bJ rfl ?_;refine Y9 _ rfl D.a D.C D.dx _ _ rfl b.ob hk.cls hk.nh rfl (Y8 D.ph rfl ⟨_,SqL.of b.hd⟩ (fun L nL=>?_));refine bh (xs:=nv (Wg.ls n T.hd)) (fun j acc H'=>Same H H'/\H' L=some (.lst acc)/\acc=(Wg.ls j (lno m n T k)).map V.int/\j<=n) ⟨aa nL,a8,rfl,zc _⟩ (fun j acc H' p=>SqL.of (p.1 _ _ b.hd)) ?_ ?_
   . intro j x acc H' hj ex z_;refine hZq fun q_ e_=>?_;obtain⟨v,l,rfl,_⟩:=z_;subst e_;have d:=hj;rw[bf]at d;rw[fQ d]at ex;cases ex;have au:=b.same v
     have es:(Wg.ls (j+1) (lno m n T k)).map V.int=(Wg.ls j (lno m n T k)).map V.int++ [.int (lno m n T k j)]:=by
      unfold Wg.ls;rw[zH,zd,zd];rfl
     have al:((Wg.ls j (lno m n T k)).map V.int).length < sizeLine:=by rw[yR,Wg.ls_len];omega
     refine Y3 _ rfl (O5 _ rfl rfl _ rfl ?_);by_cases z:T.hd j=k
     . rw[decide_eq_true (show V.int (T.hd j:Nat)=V.int (k:Int)by rw[z])]
       refine iteT ?_;refine Y9 _ rfl D.a D.C D.dx _ _ rfl au.ob hk.cls hk.nb rfl ?_;refine CompN.mk hj al l ⟨az nL v,a8,?_,d⟩;rw[es,eE g,if_pos ⟨d,z⟩]
     . rw[decide_eq_false (show¬V.int (T.hd j:Nat)=V.int (k:Int)from fun e=>z (by have:=V.int.inj e;omega))]
       refine iteF ?_;refine CompN.mk hj al l ⟨az nL v,a8,?_,d⟩;rw[es,eE g,if_neg fun y=>z y.2]
   . intro acc H2 z_;refine hZq fun q_ e_=>?_;obtain⟨v,l,rfl,_⟩:=z_;subst e_;rw[bf]at l;refine⟨two,fun l2 ai=>?_⟩;have r:=aa (o:= .lst [.int 0, .int 0]) ai;refine Y6 L l2 _ _ ⟨rfl,rfl,r _ _ l,a8,by rw[yR,Wg.ls_len];show n+2<=sizeLine;omega,fun p np=>?_⟩
     refine q p _ ((v.trans r).trans (aa np)) ?_;rw[a8]
     have es:(Wg.ls (n+2) (lno m n T k)).map V.int=(Wg.ls n (lno m n T k)).map V.int++ [.int (lno m n T k n), .int (lno m n T k (n+1))]:=by
      unfold Wg.ls;rw[zH,zH,zd,zd,zd,zd,AL];rfl
     rw[es,eE (c:=n) g,eE (c:=n+1) g,if_neg (by omega),if_neg (by omega)]
def Rwl(H:Hp)(ls:List V)(n k:Nat)(f:Nat->Nat->Int):Prop:=ls.length=k/\∀j,j < k->∃q,ls[j]?=some (.ref q)/\H q=some (.lst ((Wg.ls (n+2) (f j)).map V.int))
def mV:Sp:=fun vs H Q _=>∃(D:TA) (m mm n:Nat) (scs:List Int) (us:List Tr) (ws:List V) (pl:Addr) (ls:List V) (T:Wg.Tb),vs= [.ref D.a]/\Tk K D.C/\Tab D m mm n scs us ws pl ls T H/\Wg.Pm m n T/\
 ∀l ls' H',Same H H'->H' l=some (.lst ls')->Rwl H' ls' n n (fun j=>lno m n T (mm+j))->Q (.ref l) H'
theorem yc:FnScope ["table"] ["table"] (af sTli):= .of
theorem wC(F:Fun K "term_lines" "term_lines" sTli f fd)(B:Blt mg)(zL:Cl P w K mg base 1 "line_of" ["table","number"] (mZ (K:=K))):
 FnOk P w K mg base CX0 2 f fd ["table"] (mV (K:=K)):=by
 refine F.okb yc fun vs H Q E h=>?_;refine hZq fun q_ e_=>?_;obtain⟨D,m,mm,n,scs,us,ws,pl,ls,T,rfl,hk,c,hP,q⟩:=h;subst e_;refine⟨rfl,fun ai A outer s hr=>?_⟩;have o:(["number","table"]:List Str).Nodup:=by decide +kernel
 refine Y3 _ (ag (aD (aY (NC:= ["number","table"]) (mp:= [none,some 0]) rfl (cB rfl B.ra (a7 (aG ar rfl B.le PySem.boot_len (a7 (aI (pv 0) rfl) a9)) a9)) (fun _ _ _ _ _=>pgA 0 o) (fun _ _ _ _ _=>aV)
  (fun _ _ _ _ _=>ak zL hr (a7 (pv 1) (a7 (av c9 (aG (pJ (K:=K) rfl) rfl B.le PySem.boot_len (a7 (bT (K:=K) rfl (pv 1) rfl) a9)) (pv 0)) a9)))))) ?_
 have v:(20000:Nat)<=sizeLine:=by decide +kernel
 have n64:=c.n64;have wl:=c.tt.len;have ul:=c.ul;have sl:=c.sl;refine mN ?_;refine bJ rfl ?_;refine Y9 _ rfl D.a D.C D.dx _ _ rfl c.ob hk.cls hk.nt rfl (Y5 D.pt _ rfl (.inl (SqL.of c.tm)) (U8 (n:Int) (by rw[wl,ul]) (by omega) (by omega) (fun L nL=>?_)))
 refine mD (n:=n) (fun j acc H'=>Same H H'/\H' L=some (.lst acc)/\acc.length=j/\∀i,i < j->∃z,acc[i]?=some (.ref z)/\H' z=some (.lst ((Wg.ls (n+2) (lno m n T (mm+i))).map V.int))/\z≠L) ⟨aa nL,a8,rfl,fun i hi=>absurd hi (AH _)⟩ ?_ ?_
 . intro j acc H' l z_;refine hZq fun q_ e_=>?_;obtain⟨k,g,al,hz⟩:=z_;subst e_;rw[Ax];have b:=c.same k;refine Y3 _ rfl (Y9 _ rfl D.a D.C D.dx _ _ rfl b.ob hk.cls hk.ns rfl (Y5 D.psc _ rfl (.inl (SqL.of b.sc)) (U9 _ rfl _ _ rfl rfl ⟨D,Y6 m mm n scs (O7 us ws pl ls T (mm+j) ?_ hk b hP (fun z H3 s3 p=>?_))⟩)))
   . rw[yR,sl];simp
   . have nz:z≠L:=fun y=>by
      have h1:=s3 _ _ g;rw[y,h1]at p;have u:=HO.lst.inj (z9 p);have l4:=congrArg List.length u
      have h0:∀i,acc[i]?≠some (V.int (lno m n T (mm+j) i)):=fun i hi=>by
       have r:i < j:=by rw[<-al];exact(yZ.mp hi).1
       obtain⟨x,d,_⟩:=hz i r;rw[d]at hi;cases hi
      have:=h0 0;rw[u,c5 (by omega)]at this
      exact this rfl
     refine CompN.mk l (by omega) (s3 _ _ g) ⟨az nL (k.trans s3),a8,by rw[zj,al];rfl,fun i hi=>?_⟩
     rcases Nat.lt_or_ge i j with h|h
     . refine hZq fun q_ e_=>?_;obtain⟨x,d,t,a3⟩:=hz i h;subst e_;exact Y8 x (by rw[As (by omega)];exact d) (by rw[ae a3];exact s3 _ _ t) a3
     . have e:i=j:=by omega
       subst e;exact Y8 z (by rw[Aq (by omega),al];simp) (by rw[ae nz];exact p) nz
 . intro acc H2 z_;refine hZq fun q_ e_=>?_;obtain⟨k,g,al,hz⟩:=z_;subst e_;refine q L acc H2 k g ⟨al,fun j l=>?_⟩;refine hZq fun q_ e_=>?_;obtain⟨z,d,t,_⟩:=hz j l;subst e_;exact Y3 z d t
theorem xj:lim < 2^8000:=Nat.pow_lt_pow_right (by decide) (by decide)
theorem big1{x:Int}(h:x.natAbs<=C+1)(hb:C < lim):Big x:=zk (z7 h hb) xj
theorem mM{u:L2.TA}(h:te σ H fun v H1=>u σ H1 fun vs H2=>(v::vs).length<=sizeLine/\∀p,H2 p=none->Z.rt (.ref p) (upd H2 p (.tup (v::vs)))):tRet (tTup (cg te u)) Z σ H:=h
def qR:Sp:=fun vs H Q _=>∃(D:TA) (m mm n C:Nat) (scs:List Int) (us:List Tr) (ws:List V) (pl:Addr) (ls:List V) (T:Wg.Tb),vs= [.ref D.a]/\Tk K D.C/\Tab D m mm n scs us ws pl ls T H/\C < lim/\Wg.Pm m n T/\(T.bot.natAbs<=C/\∀i c,i < m->c < n+2->(T.ln i c).natAbs<=C)/\
 ∀(t l:Addr) (H':Hp) (M:Int),Same H H'->H' t=some (.tup [.ref l, .int (T.bot*M)])->H' l=some (.lst ((Wg.ls n fun j=>Wg.pt m n M T (mm+j)).map V.int))->1<=M->M<=(C:Int)+1->(∀i,i < m->T.sd i < mm->0 < T.ln i n-> -(T.ln i (n+1) / T.ln i n)<=M)->Q (.ref t) H'
theorem scStr:FnScope ["table","parts","lines"] ["table"] (af sStr):= .of
theorem wF(F:Fun K "strict_point" "strict_point" sStr f fd)(B:Blt mg)(zS:Cl P w K mg base 2 "slack_lines" ["table"] (iH (K:=K)))(zL:Cl P w K mg base 2 "term_lines" ["table"] (mV (K:=K))):
 FnOk P w K mg base CX0 3 f fd ["table"] (qR (K:=K)):=by
 refine F.okb scStr fun vs H Q E h=>?_;refine hZq fun q_ e_=>?_;obtain⟨D,m,mm,n,C,scs,us,ws,pl,ls,T,rfl,hk,hT,hW,hP,⟨bb,bl⟩,k⟩:=h;subst e_;refine⟨rfl,fun bj A outer s hr=>?_⟩;have a6:(["at","table"]:List Str).Nodup:=by decide +kernel
 have ai:(["line","parts"]:List Str).Nodup:=by decide +kernel
 refine Y3 _ (ac (psR 1 scStr.nd (aG (pI rfl) rfl B.ma PyProof.Rows.boot_max (a7 (av fD (bW (a7 ad a9)) (aY (NC:= ["at","table"]) (mp:= [none,some 0]) rfl (cD (K:=K) rfl (ak zS hr (a7 (pv 0) a9)))
  (fun _ _ _ _ _=>pgA 0 a6) (fun _ _ _ _ _=>cp (aw dA (aq (r:=rIxL K) am (aq (r:=rIxL K) am (bT (K:=K) rfl (pv 1) rfl) (pv 0) fun _ _=>rfl) (br aW ad) fun _ _=>rfl) ad (aE _)))
  (fun _ _ _ _ _=>br aW (av cE (aq (r:=rIxL K) am (aq (r:=rIxL K) am (bT (K:=K) rfl (pv 1) rfl) (pv 0) fun _ _=>rfl) (br aW ad) fun _ _=>rfl) (aq (r:=rIxL K) am (aq (r:=rIxL K) am (bT (K:=K) rfl (pv 1) rfl) (pv 0) fun _ _=>rfl) (br aW ad) fun _ _=>rfl))))) a9)))
  (ac (psA 2 scStr.nd (ak zL hr (a7 (pv 0) a9)))
  (ag (aD (aX (a7 (aY (NC:= ["line","parts"]) (mp:= [none,some 1]) rfl (bn (pv 2)) (fun _ _ _ _ _=>pgA 0 ai) (fun _ _ _ _ _=>aV)
   (fun _ _ _ _ _=>av c9 (av aR (aq (r:=rIxL K) am (pv 0) (br aW ad) fun _ _=>rfl) (pv 1)) (aq (r:=rIxL K) am (pv 0) (br aW ad) fun _ _=>rfl)))
   (a7 (av aR (aI (pv 0) rfl) (pv 1)) a9))))))) ?_
 have bg:(20000:Nat)<=sizeLine:=by decide +kernel
 have m64:=hT.m64;have n64:=hT.n64;have fl:∀b pl,(flds D pl b).lookup (Str.ofString "lines")=some (.ref pl):=fun b pl=>rfl;have y:∀(p:Nat->Bool),((List.range m).filter p).length<=m:=fun p=>z7 (zu _ _) (by rw[A3];exact yV _)
 refine⟨(by show 1<=sizeLine;decide),fun l1 a1=>?_⟩
 have ao:=aa (o:= .lst [.int 1]) a1;refine cA rfl ?_;have tb1:=hT.same ao;refine U7 _ rfl D m mm n scs us ws pl ls T ⟨rfl,hk,tb1,fun l H2 nl s2 hl=>?_⟩;have a4:=tb1.same s2;refine Y8 l rfl ⟨_,SqL.of hl⟩ (fun L' nL=>?_);refine eN (xs:=nv (slk m mm T)) (fun j acc H3=>Same H2 H3/\H3 L'=some (.lst acc)/\acc=((((slk m mm T).take j).filter fun x=>decide (0 < T.ln x n)).map fun x=> -(T.ln x (n+1) / T.ln x n)).map V.int) ⟨aa nL,a8,rfl⟩ (fun j acc H3 p=>SqL.of (p.1 _ _ hl)) ?_ ?_
 . intro j x acc H3 hj ex z_;refine hZq fun q_ e_=>?_;obtain⟨s3,hL,rfl⟩:=z_;unfold nv at ex;rw[yW]at ex;obtain⟨r,er,rfl⟩:=za.mp ex;obtain⟨rm,rs⟩:=slk_mem.mp (z5 er);have d:=a4.same s3;obtain⟨q,eq,hq,_,_⟩:=d.ro.2 r rm;subst e_;have al:(((slk m mm T).take j).filter fun x=>decide (0 < T.ln x n)).length<=m:=z7 (zu _ _) (z7 (List.length_take_le' _ _) (y _));refine O4 _ rfl D.a D.C D.dx _ _ rfl d.ob hk.cls hk.nl (fl _ _) _ rfl pl _ (r:Int) _ rfl rfl (SqL.of d.li) (ax eq) (O8 2 rfl q _ (-2) _ rfl rfl (SqL.of hq) ir _ 0 rfl rfl _ rfl ?_);by_cases z:0 < T.ln r n
   . rw[decide_eq_true z];refine iteT ?_;refine O4 _ rfl D.a D.C D.dx _ _ rfl d.ob hk.cls hk.nl (fl _ _) _ rfl pl _ (r:Int) _ rfl rfl (SqL.of d.li) (ax eq) (U2 1 rfl q _ (-1) _ rfl rfl (SqL.of hq) mJ (O4 _ rfl D.a D.C D.dx _ _ rfl d.ob hk.cls hk.nl (fl _ _) _ rfl pl _ (r:Int) _ rfl rfl (SqL.of d.li) (ax eq) (U2 2 rfl q _ (-2) _ rfl rfl (SqL.of hq) ir (Y7 _ _ rfl rfl ⟨z,bN (bl r n rm (by omega)) hW⟩ (Y3 _ rfl ?_)))))
     refine CompN.mk hj (by rw[yR,yR];omega) hL ⟨az nL s3,a8,?_⟩
     rw[aH er,zx];simp[z]
   . rw[decide_eq_false z];refine iteF ?_;refine CompS.mk hj ⟨s3,hL,?_⟩;rw[aH er,zx];simp[z]
 intro acc H3 z_;refine hZq fun q_ e_=>?_;obtain⟨s3,hL,rfl⟩:=z_;have a3:(nv (slk m mm T)).length=(slk m mm T).length:=by unfold nv;rw[yR]
 rw[a3,zp]at hL;obtain⟨ms,v⟩:∃ms:List Int,ms=((slk m mm T).filter fun x=>decide (0 < T.ln x n)).map fun x=> -(T.ln x (n+1) / T.ln x n):=⟨_,rfl⟩;subst e_;rw[<-v]at hL
 have bi:ms.length<=m:=by
  rw[v,yR];exact z7 (zu _ _) (y _)
 refine Y6 l1 L' _ _ ⟨rfl,rfl,s3 _ _ (s2 _ _ a8),hL,by rw[yR];show 1+ms.length<=sizeLine;omega,fun p np=>?_⟩
 have sp:=aa (o:= .lst ([.int 1]++ms.map V.int)) np;refine Y7 p (1::ms) rfl (SqL.of a8) (by simp) (fun M hM aB=>?_)
 have M1:1<=M:=aB 1 yT
 have MC:M<=(C:Int)+1:=by
  rcases yY.mp hM with e|e
  . rw[e];omega
  . rw[v]at e;obtain⟨x,hx,rfl⟩:=zr.mp e;rw[zC,slk_mem]at hx;have h1:=bl x (n+1) hx.1.1 (by omega)
    have h2:=cu (T.ln x (n+1)) (T.ln x n);omega
 have MP:∀i,i < m->T.sd i < mm->0 < T.ln i n-> -(T.ln i (n+1) / T.ln i n)<=M:=fun i hi hs hp=>by
  refine aB _ (yU _ ?_);rw[v];refine zr.mpr (Y3 i ?_ rfl);rw[zC,slk_mem];exact⟨⟨hi,hs⟩,decide_eq_true hp⟩
 have MB:Big M:=big1 (C:=C) (by omega) hW
 have sA:=((ao.trans s2).trans s3).trans sp;have aC:=hT.same sA;refine ah ?_;refine U7 _ rfl D m mm n scs us ws pl ls T ⟨rfl,hk,aC,hP,fun l2 a2 H5 s5 aA g=>?_⟩;have a5:=aC.same s5;refine ah ?_;dsimp only;refine mM ?_;refine bJ rfl ?_;refine J3 _ rfl l2 rfl ⟨_,SqL.of aA⟩ (fun L2 au=>?_);refine bh (xs:=a2) (fun j acc H6=>Same H5 H6/\H6 L2=some (.lst acc)/\acc=(Wg.ls j fun j=>Wg.pt m n M T (mm+j)).map V.int/\j<=n) ⟨aa au,a8,rfl,zc _⟩ (fun j acc H6 p=>SqL.of (p.1 _ _ aA)) ?_ ?_
 . intro j x acc H6 hj ex z_;refine hZq fun q_ e_=>?_;obtain⟨s6,u,rfl,_⟩:=z_;rw[g.1]at hj;obtain⟨q,eq,hq⟩:=g.2 j hj;subst e_;rw[eq]at ex;cases ex;have aT:=s6 _ _ hq;have b1:=lZ (k:=mm+j) (c:=n) hP bb bl (by omega)
   refine O2 _ rfl 2 rfl q _ (-2) _ rfl rfl (SqL.of aT) ir (U6 _ rfl _ _ rfl rfl ⟨bN b1 hW,MB⟩ (O2 _ rfl 1 rfl q _ (-1) _ rfl rfl (SqL.of aT) mJ (Y5 _ _ rfl rfl ?_)));show CompN _ _ _ _ _ (V.int (lno m n T (mm+j) n*M+lno m n T (mm+j) (n+1))) H6;rw[jA];refine CompN.mk (by rw[g.1];exact hj) (by rw[yR,Wg.ls_len];omega) u ⟨az au s6,a8,?_,hj⟩
   unfold Wg.ls;rw[zH,zd,zd];rfl
 . intro acc H6 z_;refine hZq fun q_ e_=>?_;obtain⟨s6,u,rfl,_⟩:=z_;subst e_;rw[g.1]at u;have a0:=a5.same s6;refine Y9 _ rfl D.a D.C D.dx _ _ rfl a0.ob hk.cls hk.nb rfl (U6 _ rfl _ _ rfl rfl ⟨bN bb hW,MB⟩ ⟨two,fun t nt=>?_⟩);have st:=aa (o:= .tup [.ref L2, .int (T.bot*M)]) nt;exact k t L2 _ M (((sA.trans s5).trans s6).trans st) a8 (st _ _ u) M1 MC MP
def qY:Sp:=fun vs H Q _=>∃(D:TA) (m mm n:Nat) (scs:List Int) (us:List Tr) (ws:List V) (pl:Addr) (ls:List V) (T:Wg.Tb) (t l:Addr) (b:Int) (tp:Nat->Int),vs= [.ref D.a, .ref t]/\Tk K D.C/\Tab D m mm n scs us ws pl ls T H/\H t=some (.tup [.ref l, .int b])/\H l=some (.lst ((Wg.ls n tp).map V.int))/\0 < b/\Big b/\us.Nodup/\(∀u∈us,Ty .tm u/\u.depth<=7)/\
 ∀(d:Addr) (H':Hp) (G:Tr->Fr),H d=none->Same H H'->Dj.DAt P w K H' d us G->(∀j u,us[j]?=some u->G u=(fx (tp j) b,fy (tp j) b))->Q (.ref d) H'
theorem scNua:FnScope ["table","point","tops","bottom"] ["table","point"] (af sNua):= .of
theorem wO(F:Fun K "numbers_at" "numbers_at" sNua f fd)(B:Blt mg)(zF:Cl P w K mg base 2 "fraction" ["top","bottom"] kg):
 FnOk P w K mg base CX0 3 f fd ["table","point"] (qY (P:=P) (w:=w) (K:=K)):=by
 refine F.okb scNua fun vs H Q E h=>?_;refine hZq fun q_ e_=>?_;obtain⟨D,m,mm,n,scs,us,ws,pl,ls,T,t,l,b,tp,rfl,hk,hT,ht,hl,hb,bb,nd,c,k⟩:=h;subst e_;refine⟨rfl,fun aC A outer s hr=>?_⟩;have aB:(A.deeper (PyProof.Rows.envOfC (Str.ofString "numbers_at") (af sNua) s.heap.objs.size f aC)).units+30 < cLine:=by have:=hr.units;omega
 have au:(["term","top","bottom"]:List Str).Nodup:=by decide +kernel
 refine Y3 _ (ac (dZ (pv 1) (ba (n:=2) rfl (aj (pgA 2 scNua.nd) (aj (dL (i:=3) scNua.nd rfl (Or.inr rfl)) aQ))))
  (ag (aD (Dj.pe_compJ (NC:= ["term","top","bottom"]) (mp:= [none,none,some 3]) (g:=gTup K 2 (b9 (aM 0) (b9 (aM 1) gNil))) rfl aB (eZ rfl B.zi (a7 (aI (pv 0) rfl) (a7 (pv 2) a9)))
   (fun _ _ _ _ _=>ba (n:=2) rfl (aj (pgA 0 au) (aj (pgA 1 au) aQ))) (fun _ _ _ _ _=>aV)
   (fun _ _ _ _ _=>pv 0) (fun _ _ _ _ _=>ak zF hr (a7 (pv 1) (a7 (pv 2) a9))))))) ?_
 have aT:(20000:Nat)<=sizeLine:=by decide +kernel
 have n64:=hT.n64;have wl:=hT.tt.len;have ul:=hT.ul;obtain⟨G,eG⟩:∃G:Tr->Fr,G=fun u=>(fx (tp (Fm.ix us u)) b,fy (tp (Fm.ix us u)) b):=⟨_,rfl⟩;have hG:∀j u,us[j]?=some u->G u=(fx (tp j) b,fy (tp j) b):=fun j u e=>by rw[eG];show(fx (tp (Fm.ix us u)) b,_)=_;rw[Fm.ix_eq nd e]
 refine Y3 _ rfl (O3 t _ rfl (SqT.of ht) rfl _ _ rfl _ _ rfl rfl ?_);dsimp only;refine Dj.comp_zipJL (P:=P) (w:=w) (K:=K) (xs:=ws) (ys:=(Wg.ls n tp).map V.int) (rest:= [some (.int b)]) (a:=D.pt) (b:=l) rfl (by rw[yR,Wg.ls_len];omega) (fun Q q=>Y9 _ rfl D.a D.C D.dx _ _ rfl hT.ob hk.cls hk.nt rfl (Y3 _ rfl q)) (SqL.of hT.tm) (SqL.of hl) fun d v=>?_
 refine U8 (fun j acc H'=>Same H H'/\Dj.DJ P w K H' d acc/\Paired (Dj.En H' G) acc (us.take j)) ⟨aa v,⟨a8,fun p m=>(by cases m)⟩,by rw[Aa];exact .nil⟩ (fun j acc H' p=>⟨SqL.of (p.1 _ _ hT.tm),SqL.of (p.1 _ _ hl)⟩) ?_ ?_
 . rintro j T' x y acc H' hj ⟨s2,hD,hP⟩ ex ey nT;have jn:j < n:=by omega
   rw[c5 jn]at ey;cases ey;refine hZq fun q_ e_=>?_;obtain⟨u,eu,hu⟩:=hT.tt.get' ex;obtain⟨ty,dp⟩:=c u (z5 eu);obtain⟨b',rfl⟩:=Dj.tm_ref ty hu;subst e_;have sT:=aa (o:= .tup [.ref b', .int (tp j)]) nT;refine Y3 _ rfl (U3 b' (Dj.ktL u) rfl ?_);refine Y3 _ rfl (U6 _ rfl (tp j) b rfl hb bb (fun q nq=>?_));have sq:=aa (o:= .tup [.int (fx (tp j) b), .int (fy (tp j) b)]) nq;have ai:=hu.mono (Kd.of_same ((s2.trans sT).trans sq));have r:Dj.DJ P w K (upd (upd H' T' (.tup [.ref b', .int (tp j)])) q (.tup [.int (fx (tp j) b), .int (fy (tp j) b)])) d acc:=hD.kd (Kd.of_same (sT.trans sq)) ((sT.trans sq) _ _ hD.at_);have ao:=Dj.en_mono (Kd.of_same (sT.trans sq)) hP
   have hv:TrAt (upd (upd H' T' (.tup [.ref b', .int (tp j)])) q (.tup [.int (fx (tp j) b), .int (fy (tp j) b)])) (.ref q) (frT (G u)):=by
    rw[hG j u eu];exact cy a8 at_i at_i
   have key:=Dj.key_tm ty dp ai (K:=K);have pl':=Paired.length hP;rw[zv]at pl'
   have aA:u∉us.take j:=fun m=>by
    obtain⟨i,hi,e⟩:=Ac m;rw[zv]at hi;rw[List.getElem_take]at e;have:=ss nd eu (show us[i]?=some u by rw[yS (by omega),e])
    omega
   have e0:=(Dj.en_val ao (fun t m=>(c t (List.mem_of_mem_take m)).1) ty).2 aA
   have ep:Dj.putJ acc (Dj.ktL u) b' (.ref q)=acc++ [(Dj.ktL u,b', .ref q)]:=by
    unfold Dj.putJ;rw[e0,if_neg (by simp)]
   refine Dj.CompJ.mk (by omega) (by omega) r key ⟨?_,r.put key,?_⟩
   . intro x o e;have:=((s2.trans sT).trans sq) _ _ e;rw[ae (fun z=>by rw[z,v]at e;cases e)]
     exact this
   . rw[ep,aH eu];have kd:=Dj.Kd.updJ (o:=Dj.dJ P w d (acc++ [(Dj.ktL u,b', .ref q)])) r.at_;exact Paired.snoc (Dj.en_mono kd ao) ⟨rfl,ai.mono kd,hv.mono kd⟩
 . rintro acc H2 ⟨s2,hD,hP⟩;rw[wl,zp]at hP;exact k d H2 G v s2 ⟨(Y3 acc hD hP),c,nd⟩ hG
end K46
namespace L2
open PySem PySem.Spec PyProof.Rows
theorem ext3{o p q:Option V}{r:St}:Ext (none::none::none::r) (o::p::q::r)
 |0,v,e=>by cases (z9 (show some (none:Option V)=some (some v)from e))
 |1,v,e=>by cases (z9 (show some (none:Option V)=some (some v)from e))
 |2,v,e=>by cases (z9 (show some (none:Option V)=some (some v)from e))
 |j+3,v,e=>e
theorem mE{g:TG}{Q:VK}(ha:∀Q:VK,Q (.ref a) H1->tl σ H Q)(h1:SqL K H1 a xs)(h:∀D,H1 D=none->∃Pv:Nat->List V->Hp->Prop,Pv 0 [] (upd H1 D (.lst []))/\(∀i acc H,Pv i acc H->SqL K H a xs)/\
  (∀i z acc H,i < xs.length->Pv i acc H->xs[i]?=some z->g z (subS mp σ) H fun σ4 H4=>Ext (subS mp σ) σ4/\tc σ4 H4 fun b H5=>if b=true then te σ4 H5 (CompN xs.length i D acc Pv)else CompS xs.length i acc Pv H5)/\∀acc H,Pv xs.length acc H->Q (.ref D) H):
 bU mp (oh K tl) g tc te σ H Q:=by
 unfold bU;refine ha _ (Y8 a rfl ⟨xs,h1⟩ (fun D f=>?_));obtain⟨Pv,e,j,ps,k⟩:=h D f;refine Y3 (fun i m acc H=>m=xs.length - i/\i<=xs.length/\Pv i acc H) (Y8 xs.length (by simp) (zc _) e) ?_
 rintro i m acc H ⟨rfl,hi,p⟩;have d:=j i acc H p;by_cases c:i < xs.length
 . refine .inr ⟨(U3 xs (xs[i]) d (by simp[c])),?_⟩
   rintro v H' ⟨rfl,y⟩;exact ps i v acc _ c p (y xs d)
 . have ei:i=xs.length:=by omega
   subst ei;exact .inl ⟨(Y3 xs d (yV _)),k acc H p⟩
end L2
namespace K46
open PySem L2 Mth Tre Wd Su Tw Fm
variable{ta:TE}{T:List Tr}{e X:Nat}{r:R2}
theorem jX{dvs:List V}{E:XK}{tb:TE}(h:ta σ H fun x H1=>tb σ H1 fun y H2=>r x y H2 fun v H3=>sp ([v]++dvs) H3 (fun x H4=>aM i x σ H4 (u Z)) E):tSeq (tAsg (mS sp dvs E (cg (tOp r ta tb) tNil)) (aM i)) u Z σ H:=h
theorem qe{tb:TE}{Q:List V->Hp->Prop}(h:ta σ H fun x H1=>tb σ H1 fun y H2=>r x y H2 fun v H3=>Q [v] H3):cg (tOp r ta tb) tNil σ H Q:=h
structure Bnd where
 ps:List Pq
 lim:Fr
 st:Bool
def bdT(b:Bnd):Tr:= .tup [sumT b.ps,frT b.lim, .bl b.st]
theorem eP{a b c:Tr}(h:TrAt H v (.tup [a,b,c])):∃r x y z,v= .ref r/\H r=some (.tup [x,y,z])/\TrAt H x a/\TrAt H y b/\TrAt H z c:=by
 obtain⟨r,vs,rfl,hr,g⟩:=at_t h;obtain⟨x,r1,rfl,h1,h2⟩:=g.inv;obtain⟨y,r2,rfl,h3,f⟩:=h2.inv;obtain⟨z,i,rfl,e,d⟩:=f.inv;unfold TrsAt at d;subst d;exact O9 r x y z rfl hr h1 h3 e
noncomputable def scl(b:Bnd):Int:=lcmF 1 (b.ps.map (·.2)++ [b.lim])
noncomputable def rowF(us:List Tr)(b:Bnd)(c:Nat):Int:=
 if c < us.length then -(cw (scl b) (us.getD c .non) b.ps)else if c=us.length then wh b.lim (scl b)else if b.st then -1 else 0
noncomputable def Lf(bs:List Bnd)(us:List Tr)(i:Nat):Nat->Int:=rowF us (bs.getD i ⟨[],(0,1),false⟩)
theorem uk{us:List Tr}{b:Bnd}(h:us.length=n):Wg.ls (n+2) (rowF us b)=((us.map fun t=>cw (scl b) t b.ps).map fun x=> -x)++ [wh b.lim (scl b),if b.st then -1 else 0]:=by
 subst h;unfold Wg.ls;rw[zH,zH,AL,zd];congr 1
 . refine List.ext_getElem? fun i=>?_;rw[yW,yW,yW];by_cases hi:i < us.length
   . rw[List.getElem?_range hi,yS hi];simp only[Option.map_some,Option.some.injEq];unfold rowF;rw[if_pos hi,z8,yS hi];rfl
   . rw[Ar (by rw[A3];omega),Ar (by omega)]
     rfl
 . show[rowF us b us.length,rowF us b (us.length+1)]=_;unfold rowF;rw[if_neg (by omega),if_pos rfl,if_neg (by omega),if_neg (by omega)]
structure Bz (bs:List Bnd) (X Y S k C:Nat):Prop where
 ps:∀b∈bs,b.ps.length<=k/\(∀p∈b.ps,p.2.1.natAbs<=X/\p.2.2.natAbs<=Y)/\b.lim.1.natAbs<=X/\b.lim.2.natAbs<=Y
 sc:∀b∈bs,(scl b).natAbs<=S
 y1:1<=Y
 xs:1<=X*S
 yb:Y^(k+2) < 2^8000
 cc:Wg.fac bs.length*(X*S)^bs.length<=C
 s1:S<=C
 c1:1<=C
 big:C < lim
structure Gbd (T:List Tr) (e:Nat) (b:Bnd):Prop where
 asc:Asc b.ps
 ps:∀p∈b.ps,Gm T p.1/\Gq e p
 lim:Gf e b.lim
 sh:Sh b.lim
theorem oQ{a b:Nat}(hY:1<=Y)(h:a<=b):Y^a<=Y^b:=zE hY h
theorem Gbd.scl_ok{b:Bnd}(g:Gbd T e b):0 < scl b/\(∀p∈b.ps,p.2.2∣scl b)/\b.lim.2∣scl b:=by
 have h:∀f∈b.ps.map (·.2)++ [b.lim],0 < f.2/\f.2.natAbs<=(((b.ps.map (·.2)++ [b.lim]).map fun f:Fr=>f.2.natAbs).foldr max 0):=by
  intro f a;refine⟨?_,?_⟩
  . rcases zw.mp a with m|m
    . obtain⟨p,mp,rfl⟩:=zr.mp m;exact(g.ps p mp).2.gf.pos
    . rw[zq.mp m];exact g.lim.pos
  . generalize b.ps.map (·.2)++ [b.lim]=fs at a;clear g
    induction fs with
    |nil=>cases a
    |cons x r d=>
     rw[zh,List.foldr_cons];rcases yY.mp a with rfl|a
     . exact Nat.le_max_left _ _
     . exact z7 (d a) (Nat.le_max_right _ _)
 obtain⟨i,j,c,_⟩:=dO (s:=1) (by decide) h
 refine⟨i,fun p mp=>c p.2 (Af _ (zr.mpr ⟨p,mp,rfl⟩)),c _ (zy _ yT)⟩
theorem Bz.sz{bs:List Bnd}{k:Nat}(h:Bz bs X Y S k C)(g:∀b∈bs,Gbd T e b)(us:List Tr):Wg.Sz bs.length us.length (Lf bs us) (X*S):=by
 refine⟨fun i c hi hc=>?_,h.xs⟩
 have a:bs.getD i ⟨[],(0,1),false⟩∈bs:=by
  rw[z8,yS hi];exact zJ hi
 unfold Lf;generalize bs.getD i ⟨[],(0,1),false⟩=b at a;obtain⟨_,h2,h3,_⟩:=h.ps b a;have hs:=h.sc b a;have gb:=g b a;unfold rowF;split
 . rw[A4];refine z7 (tI (e:=e) (M:=X) fun p mp=>⟨(gb.ps p mp).2.gf.pos,(h2 p mp).1⟩) (Nat.mul_le_mul_left _ hs)
 . split
   . exact z7 (vi gb.lim.pos) (AB h3 hs)
   . have:=h.xs;split
     . show 1<=X*S;exact this
     . exact zc _
theorem Bz.wb{bs:List Bnd}{k:Nat}(h:Bz bs X Y S k C)(g:∀b∈bs,Gbd T e b)(us:List Tr):Wb bs.length us.length (Lf bs us) (bs.map scl) C:=by
 refine⟨⟨X*S,h.sz g us,h.cc⟩,fun s c=>?_,h.c1,h.big⟩;obtain⟨b,a,rfl⟩:=zr.mp c;exact⟨(g b a).scl_ok.1,z7 (h.sc b a) h.s1⟩
def qL(C0:Addr):Sp:=fun vs H Q _=>∃(lb lsu:Addr) (xs ys:List V) (bs:List Bnd) (ex:List (List Pq)) (T:List Tr) (e X Y S k C:Nat),vs= [.ref lb, .ref lsu]/\H lb=some (.lst xs)/\TrsAt H xs (bs.map bdT)/\H lsu=some (.lst ys)/\TrsAt H ys (ex.map sumT)/\
 (∀b∈bs,Gbd T e b)/\(∀ps∈ex,∀p∈ps,Gm T p.1)/\e<=8000/\T.length < 60/\bs.length<=64/\ex.length<=64/\k<=60/\Bz bs X Y S k C/\
 ∀(D:TA) (H':Hp) (us:List Tr) (ws:List V) (pl:Addr) (ls:List V) (Tb:Wg.Tb),D.C=C0->Same H H'->Tab D bs.length bs.length us.length (bs.map scl) us ws pl ls Tb H'->Okt bs.length us.length (Lf bs us) Tb->us.Nodup->(∀u∈us,Gm T u)->us.length<=T.length->
  (∀x,x∈us↔(∃b∈bs,∃p∈b.ps,p.1=x)\/∃ps∈ex,∃p∈ps,p.1=x)->H D.a=none->H D.pss=none->H D.ph=none->H pl=none->Q (.ref D.a) H'
theorem scTof:FnScope ["bounds","sums","bound","terms","pairs","strict","scales","lines","scale","counts","table"] ["bounds","sums"] (af sTof):= .of
theorem wA{dI:FuncData}(F:Fun K "table_of" "table_of" sTof f fd)(B:Blt mg)(hk:Tk K C0)(zTm:Cl P w K mg base 42 "terms_of" ["sums"] qN)(zSc:Cl P w K mg base 2 "scale_of" ["shares"] mX)(zSh:Cl P w K mg base 1 "shares_in" ["pairs"] mW)(zCt:Cl P w K mg base 42 "counts_of" ["pairs","terms","scale"] nA)(zWh:Cl P w K mg base 1 "whole_of" ["share","scale"] mU)(M:Mk K C0 fI)(GI:FnOk P w K mg base CX0 1 fI dI ["self","terms","scales","lines"] (lN (K:=K) C0))(bI:Binds K dI ["self","terms","scales","lines"] [])(mC:mg "Table"=some (.ref C0))(zSe:Cl P w K mg base 3 "settle" ["table"] (qT (K:=K))):
 FnOk P w K mg base CX0 43 f fd ["bounds","sums"] (qL C0):=by
 refine F.okb scTof fun vs H Q E h=>?_;refine hZq fun q_ e_=>?_;obtain⟨lb,lsu,xs,ys,bs,ex,T,e,X,Y,S,k,C,rfl,ai,bj,e3,d2,hg,d6,he,fB,fa,fC,f2,hz,q⟩:=h;subst e_;refine⟨rfl,fun f3 A outer s hr=>?_⟩;have ek:Room 1 _:=hr.mono (by decide)
 have dj:Room 2 _:=hr.mono (by decide)
 have eG:Room 3 _:=hr.mono (by decide)
 have e5:(["bound"]:List Str).Nodup:=by decide +kernel
 have d9:(["count"]:List Str).Nodup:=by decide +kernel
 have cr:(["pairs","bound","strict"]:List Str).Nodup:=by decide +kernel
 refine Y3 _ (ac (psA 3 scTof.nd (ak zTm hr (a7 (av fD (aY (NC:= ["bound"]) (mp:= [none]) rfl (bn (pv 0)) (fun _ _ _ _ _=>pgA 0 e5) (fun _ _ _ _ _=>aV) (fun _ _ _ _ _=>aq (r:=rIxT K) aL (pv 0) ad fun _ _=>rfl)) (bO dg rfl B.li PyProof.Rows.boot_list (a7 (pv 1) a9))) a9)))
  (ac (cK (i:=6) (NC:= ["pairs","bound","strict"]) (mp:= [none,none,none]) (g:=gTup K 3 (b9 (aM 0) (b9 (aM 1) (b9 (aM 2) gNil)))) rfl scTof.nd rfl rfl rfl (bn (pv 0))
   (fun _ _ _ _ _=>ba (n:=3) rfl (aj (pgA 0 cr) (aj (pgA 1 cr) (aj (pgA 2 cr) aQ)))) (fun _ _ _ _ _=>aV)
   (fun _ _ _ _ _=>ak zSc dj (a7 (av fD (ak zSh ek (a7 (pv 0) a9)) (bW (a7 (pv 1) a9))) a9)))
  (ac (psA 7 scTof.nd (bW a9))
  (ac (bV PassesOwn.never rfl (eZ rfl B.zi (a7 (pv 0) (a7 (pv 6) a9))) (ba rfl (aj (ba (n:=3) rfl (aj (pgA 4 scTof.nd) (aj (pgA 2 scTof.nd) (aj (pgA 5 scTof.nd) aQ)))) (aj (pgA 8 scTof.nd) aQ)))
   (ac (psA 9 scTof.nd (ak zCt hr (a7 (pv 4) (a7 (pv 3) (a7 (pv 8) a9)))))
   (ag (bA (cU PySem.F.plainAttrs_list PySem.F.slot_list_append PySem.F.type_list_append bu (pv 7) (a7 (av fD (aY (NC:= ["count"]) (mp:= [none]) rfl (bn (pv 9)) (fun _ _ _ _ _=>pgA 0 d9) (fun _ _ _ _ _=>aV) (fun _ _ _ _ _=>br aW (pv 0)))
    (bW (a7 (ak zWh ek (a7 (pv 2) (a7 (pv 8) a9))) (a7 (cS (cC (pv 5)) (br aW ad) ad) a9)))) a9))))))
  (ac (psA 10 scTof.nd (uw M GI dj rfl mC bI .nil iL (a7 (pv 3) (a7 (pv 6) (a7 (pv 7) a9)))))
  (ac (bA (ak zSe eG (a7 (pv 10) a9)))
  (ag (aD (pv 10))))))))) ?_
 have fM:(20000:Nat)<=sizeLine:=by decide +kernel
 have xl:=bj.len;rw[yR]at xl;have yl:=d2.len;rw[yR]at yl;obtain⟨pss,a4⟩:∃pss,pss=bs.map (·.ps)++ex:=⟨_,rfl⟩;refine jX ?_;refine bJ rfl ?_;refine J3 _ rfl lb rfl ⟨_,SqL.of ai⟩ (fun L1 dn=>?_);refine bh (xs:=xs) (fun j acc H'=>Same H H'/\H' L1=some (.lst acc)/\TrsAt H' acc ((bs.take j).map fun b=>sumT b.ps)) ⟨aa dn,a8,by rw[Aa];exact .nil⟩ (fun j acc H' p=>SqL.of (p.1 _ _ ai)) ?_ ?_
 . intro j x acc H' hj bv z_;refine hZq fun q_ e_=>?_;obtain⟨s2,hL,hA⟩:=z_;obtain⟨t,et,ht⟩:=(bj.mono (Kd.of_same s2)).get' bv;rw[yW]at et;obtain⟨b,eb,rfl⟩:=za.mp et;obtain⟨r,x1,y1,z1,rfl,a0,aT,_,_⟩:=eP ht;subst e_;have al:=hA.len;rw[yR,zv]at al;refine U2 _ rfl r _ 0 _ rfl rfl (SqT.of a0) rfl ?_;have kd:=Kd.upd (ys:=acc++ [x1]) hL;refine CompN.mk hj (by omega) hL ⟨az dn s2,a8,?_⟩
   rw[aH eb,zd];exact TrsAt.app (.cons (aT.mono kd) .nil) (hA.mono kd)
 rintro acc H1 ⟨s1,e0,hA⟩;rw[xl,zp]at hA;have al:=hA.len;rw[yR]at al;refine U9 _ rfl lsu _ rfl (.inl (SqL.of (s1 _ _ e3))) (fun l2 eH=>?_);have bY:=aa (o:= .lst ys) eH;refine Y6 L1 l2 _ _ ⟨rfl,rfl,bY _ _ e0,a8,by omega,fun p1 eM=>?_⟩
 have d4:=aa (o:= .lst (acc++ys)) eM;have sA:=(s1.trans bY).trans d4;refine Y6 p1 _ pss T ⟨rfl,a8,?_,?_,by omega,fun lt ws us H2 f4 s2 b7 e9 d5 ee=>?_⟩
 . rw[a4,zd,Aj];exact TrsAt.app (d2.mono (Kd.of_same sA)) (hA.mono (Kd.of_same (bY.trans d4)))
 . intro ps em p mp;rw[a4]at em;rcases zw.mp em with m|m
   . obtain⟨b,mb,rfl⟩:=zr.mp m;exact((hg b mb).ps p mp).1
   . exact d6 ps m p mp
 have a6:∀x,x∈us↔(∃b∈bs,∃p∈b.ps,p.1=x)\/∃ps∈ex,∃p∈ps,p.1=x:=fun x=>by
  rw[ee x,a4];constructor
  . rintro⟨ps,m,h⟩;rcases zw.mp m with m|m
    . obtain⟨b,mb,rfl⟩:=zr.mp m;exact .inl (Y3 b mb h)
    . exact .inr (Y3 ps m h)
  . rintro(⟨b,mb,h⟩|⟨ps,m,h⟩)
    . exact Y3 b.ps (Af _ (zr.mpr (Y3 b mb rfl))) h
    . exact Y3 ps (zy _ m) h
 have cd:∀u∈us,Gm T u:=fun u mu=>by
  rcases(a6 u).mp mu with⟨b,mb,p,mp,rfl⟩|⟨ps,m,p,mp,rfl⟩
  . exact((hg b mb).ps p mp).1
  . exact d6 ps m p mp
 have uT:us.length<=T.length:=ge d5 fun u mu=>(cd u mu).mem;have sB:=sA.trans s2;refine ah ?_;refine cH ?_;refine mE (K:=K) (xs:=xs) (a:=lb) (fun Q q=>Y3 _ rfl q) (SqL.of (sB _ _ ai)) fun L3 c8=>?_;refine U8 (fun j acc H'=>Same H2 H'/\H' L3=some (.lst acc)/\acc=((bs.take j).map scl).map V.int) ⟨aa c8,a8,rfl⟩ (fun j acc H' p=>SqL.of (p.1 _ _ (sB _ _ ai))) ?_ ?_
 . rintro j z acc H' hj ⟨s3,au,rfl⟩ ez;refine hZq fun q_ e_=>?_;obtain⟨t,et,ht⟩:=(bj.mono (Kd.of_same (sB.trans s3))).get' ez;rw[yW]at et;obtain⟨b,eb,rfl⟩:=za.mp et;have mb:=z5 eb;obtain⟨r,x1,y1,z1,rfl,a0,aT,b8,bR⟩:=eP ht;obtain⟨k1,k2,k3,k4⟩:=hz.ps b mb;subst e_;have gb:=hg b mb;refine Y7 r _ rfl (SqT.of a0) rfl (U3 _ _ rfl ⟨_,U6 _ rfl _ _ rfl rfl ext3 (dM ?_)⟩);refine U6 _ rfl x1 b.ps rfl aT (by omega) (fun l4 w4 H4 s4 f5 eL c3=>?_)
   have fb:=c3.len;rw[yR]at fb;refine Y8 _ rfl (by show 1<=sizeLine;decide) (fun l5 dl=>?_)
   have s5:=aa (o:= .lst [y1]) dl;refine Y6 l4 l5 _ _ ⟨rfl,rfl,s5 _ _ eL,a8,by show w4.length+1<=sizeLine;omega,fun p6 fh=>?_⟩
   have s6:=aa (o:= .lst (w4++ [y1])) fh;refine Y6 p6 _ (b.ps.map (·.2)++ [b.lim]) Y ⟨rfl,a8,?_,?_,hz.y1,?_,?_⟩
   . rw[zd,Aj];refine TrsAt.app (.cons (b8.mono (Kd.of_same ((s4.trans s5).trans s6))) .nil) ?_;exact c3.mono (Kd.of_same (s5.trans s6))
   . intro f mf;rcases zw.mp mf with m|m
     . obtain⟨p,mp,rfl⟩:=zr.mp m;exact⟨(gb.ps p mp).2.gf.pos,(k2 p mp).2⟩
     . rw[zq.mp m];exact⟨gb.lim.pos,k4⟩
   . refine zk (oQ hz.y1 ?_) hz.yb;rw[zj,yR];show b.ps.length+1+1<=k+2;omega
   . have jl:j < bs.length:=(yZ.mp eb).1;refine CompN.mk hj (by rw[yR,yR,zv];omega) (((s4.trans s5).trans s6) _ _ au) ⟨az c8 (((s3.trans s4).trans s5).trans s6),a8,?_⟩
     rw[aH eb];simp[scl]
 rintro fo H3 ⟨s3,au,rfl⟩;rw[xl,zp]at au;have sC:=sB.trans s3;refine ah ?_;refine⟨(by show 0<=sizeLine;omega),fun pl bg=>?_⟩
 have a5:=aa (o:= .lst []) bg;refine ah ?_;have sD:=sC.trans a5;obtain⟨H4,er⟩:∃H4,H4=upd H3 pl (.lst []):=⟨_,rfl⟩;rw[<-er]at a5 sD ⊢;have bw:H4 pl=some (.lst []):=by rw[er];exact a8
 have cn:H pl=none:=sC.free bg;have e2:lb≠pl:=fun z=>by rw[z,cn]at ai;cases ai
 have ej:=sD _ _ ai;have bb:H4 L3=some (.lst ((bs.map scl).map V.int)):=a5 _ _ au;have d7:L3≠pl:=fun z=>by rw[z,bg]at au;cases au
 have d8:H4 lt=some (.lst ws):=(s3.trans a5) _ _ b7;have ef:lt≠pl:=fun z=>by rw[z]at b7;rw[s3 _ _ b7]at bg;cases bg
 have bF:=e9.mono (Kd.of_same (s3.trans a5))
 have c4:∀ {H':Hp},But1 pl H4 H'->(∃zs,H' pl=some (.lst zs))->Kd H4 H':=fun{H'} b hp=>⟨fun x o e=>b _ _ (fun z=>by rw[z,bw]at e;cases e) e,fun x o e=>by
  by_cases z:x=pl
  . rw[z];exact hp
  . exact⟨o,b _ _ z e⟩⟩
 refine Y3 _ rfl (Y2 _ rfl lb L3 xs ((bs.map scl).map V.int) ⟨rfl,SqL.of ej,SqL.of bb,?_⟩)
 refine pw (xs:=xs) (ys:=(bs.map scl).map V.int) (by rw[yR,yR];omega)
  (fun i σ H'=>(∃v2 v4 v5 v8 v9,σ= [some (.ref lb),some (.ref lsu),v2,some (.ref lt),v4,v5,some (.ref L3),some (.ref pl),v8,v9,none])/\But1 pl H4 H'/\∃acc,H' pl=some (.lst acc)/\acc.length=i/\∀j,j < i->∃q,acc[j]?=some (.ref q)/\H' q=some (.lst ((Wg.ls (us.length+2) (Lf bs us j)).map V.int))/\q≠pl)
  ⟨⟨none,Y6 none none none none rfl⟩,fun x o _ e=>e,Y8 ([]) bw rfl (fun j hj=>absurd hj (AH _))⟩ (fun i σ H' _ p=>⟨SqL.of (p.2.1 _ _ e2 ej),SqL.of (p.2.1 _ _ d7 bb)⟩) ?_ ?_
 . rintro i Tt x y σ H' ex' ey _ ⟨⟨v2,v4,v5,v8,v9,rfl⟩,b1,d,aA,cI,e7⟩ nT;rw[yW,yW]at ey;have d3:=c4 b1 ⟨_,aA⟩;refine hZq fun q_ e_=>?_;obtain⟨t,et,ht⟩:=((bj.mono (Kd.of_same sD)).mono d3).get' ex';rw[yW]at et;obtain⟨b,eb,rfl⟩:=za.mp et;subst e_;rw[eb]at ey;cases ey;have mb:=z5 eb;have ib:i < bs.length:=(yZ.mp eb).1;have gb:=hg b mb;refine hZq fun q_ e_=>?_;obtain⟨r,x1,y1,z1,rfl,a0,aT,b8,bR⟩:=eP ht;have sT:=aa (o:= .tup [.ref r, .int (scl b)]) nT;obtain⟨k1,k2,k3,k4⟩:=hz.ps b mb;subst e_;have bB:Big (scl b):=bN (z7 (hz.sc b mb) hz.s1) hz.big;unfold TrAt at bR;subst bR;refine O3 Tt _ rfl (SqT.of a8) rfl _ _ rfl r _ rfl (SqT.of (sT _ _ a0)) ⟨rfl,U3 _ _ rfl ⟨_,U9 _ rfl _ _ rfl rfl (Y5 _ _ rfl rfl ?_)⟩⟩;refine J5 _ rfl _ rfl _ rfl x1 b.ps lt ws us T (scl b) e ⟨rfl,aT.mono (Kd.of_same sT),gb.asc,gb.ps,he,bB,by omega,sT _ _ (b1 _ _ ef d8),(bF.mono d3).mono (Kd.of_same sT),cd,by omega,fun l5 H5 dl s5 ea=>?_⟩
   refine ah ?_;refine Y8 _ rfl (.inl ⟨rfl,_,SqL.of ((sT.trans s5) _ _ aA)⟩) ?_;refine qe ?_;refine bJ rfl ?_;refine J3 _ rfl l5 rfl ⟨_,SqL.of ea⟩ (fun L6 d0=>?_);refine bh (xs:=(us.map fun t=>cw (scl b) t b.ps).map V.int) (fun j acc H6=>Same H5 H6/\H6 L6=some (.lst acc)/\acc=(((us.map fun t=>cw (scl b) t b.ps).take j).map fun x=> -x).map V.int) ⟨aa d0,a8,rfl⟩ (fun j acc H6 p=>SqL.of (p.1 _ _ ea)) ?_ ?_
   . intro j x acc H6 hj bv z_;refine hZq fun q_ e_=>?_;obtain⟨s6,aC,rfl⟩:=z_;rw[yW]at bv;obtain⟨c,ec,rfl⟩:=za.mp bv;subst e_;have jl:j < us.length:=by have:=(yZ.mp ec).1;rw[yR]at this;exact this
     refine U5 _ rfl c rfl ?_;refine CompN.mk hj (by rw[yR,yR,zv,yR];omega) aC ⟨az d0 s6,a8,?_⟩
     rw[aH ec];simp
   rintro fq H6 ⟨s6,aC,rfl⟩;rw[yR,zp]at aC;have sE:=(sT.trans s5).trans s6;refine Y3 _ rfl (J4 _ rfl y1 b.lim (scl b) rfl ⟨b8.mono (Kd.of_same sE),gb.lim.pos,gb.lim.bot.big he,gb.lim.top.big he,bB,U5 _ rfl b.st rfl ?_⟩);have row:=uk (us:=us) (b:=b) (n:=us.length) rfl
   have eB:Lf bs us i=rowF us b:=by
    unfold Lf;rw[z8,eb];rfl
   have fv:∀v:Int,(d++ [V.int v]).length=i+1:=fun v=>by rw[zj,cI];rfl
   have fin:∀st:Int,(if b.st=true then(-1:Int)else 0)=st->∀l7 p8,H6 l7=none->(upd H6 l7 (.lst [.int (wh b.lim (scl b)), .int st])) p8=none->
    But1 pl H4 (upd (upd (upd H6 l7 (.lst [.int (wh b.lim (scl b)), .int st])) p8 (.lst ((((us.map fun t=>cw (scl b) t b.ps).map fun x=> -x).map V.int)++ [.int (wh b.lim (scl b)), .int st]))) pl (.lst (d++ [.ref p8])))/\
    ∃acc,(upd (upd (upd H6 l7 (.lst [.int (wh b.lim (scl b)), .int st])) p8 (.lst ((((us.map fun t=>cw (scl b) t b.ps).map fun x=> -x).map V.int)++ [.int (wh b.lim (scl b)), .int st]))) pl (.lst (d++ [.ref p8]))) pl=some (.lst acc)/\acc.length=i+1/\
     ∀j,j < i+1->∃q,acc[j]?=some (.ref q)/\(upd (upd (upd H6 l7 (.lst [.int (wh b.lim (scl b)), .int st])) p8 (.lst ((((us.map fun t=>cw (scl b) t b.ps).map fun x=> -x).map V.int)++ [.int (wh b.lim (scl b)), .int st]))) pl (.lst (d++ [.ref p8]))) q=some (.lst ((Wg.ls (us.length+2) (Lf bs us j)).map V.int))/\q≠pl:=by
    intro st e4 l7 p8 ao l;have s7:=aa (o:= .lst [.int (wh b.lim (scl b)), .int st]) ao;have s8:=aa (o:= .lst ((((us.map fun t=>cw (scl b) t b.ps).map fun x=> -x).map V.int)++ [.int (wh b.lim (scl b)), .int st])) l;have ft:=((sE.trans s7).trans s8) _ _ aA;have n8:p8≠pl:=fun z=>by rw[z,(sE.trans s7) _ _ aA]at l;cases l
    refine⟨fun x o nx e=>?_,Y8 (d++ [.ref p8]) a8 (by rw[zj,cI];rfl) (fun j hj=>?_)⟩
    . rw[ae nx];exact((sE.trans s7).trans s8) _ _ (b1 _ _ nx e)
    . rcases Nat.lt_or_ge j i with h|h
      . refine hZq fun q_ e_=>?_;obtain⟨q,a1,a2,a3⟩:=e7 j h;subst e_;exact Y8 q (by rw[As (by omega)];exact a1) (by rw[ae a3];exact((sE.trans s7).trans s8) _ _ a2) a3
      . have e:j=i:=by omega
        subst e;refine Y8 p8 (by rw[Aq (by omega),cI];simp) ?_ n8
        rw[ae n8,a8,eB,row,zd,<-e4];rfl
   have bC:∀z:Int,((((us.map fun t=>cw (scl b) t b.ps).map fun x=> -x).map V.int)).length+ [V.int (wh b.lim (scl b)),V.int z].length<=sizeLine:=fun z=>by
    rw[yR,yR,yR];show us.length+2<=sizeLine;omega
   cases eu:b.st with
   |true=>
    refine iteT (Y8 1 rfl two (fun l7 ao=>?_));have s7:=aa (o:= .lst [.int (wh b.lim (scl b)), .int (-1)]) ao;refine Y6 L6 l7 _ _ ⟨rfl,rfl,s7 _ _ aC,a8,bC _,fun p8 l=>?_⟩;have s8:=aa (o:= .lst ((((us.map fun t=>cw (scl b) t b.ps).map fun x=> -x).map V.int)++ [.int (wh b.lim (scl b)), .int (-1)])) l;refine U4 pl d _ rfl rfl (((sE.trans s7).trans s8) _ _ aA) (by omega) ?_
    obtain⟨c1,c2⟩:=fin (-1) (by rw[eu];rfl) l7 p8 ao l
    exact⟨⟨_,Y6 _ _ _ _ rfl⟩,c1,c2⟩
   |false=>
    refine iteF ⟨two,fun l7 ao=>?_⟩;have s7:=aa (o:= .lst [.int (wh b.lim (scl b)), .int 0]) ao;refine Y6 L6 l7 _ _ ⟨rfl,rfl,s7 _ _ aC,a8,bC _,fun p8 l=>?_⟩;have s8:=aa (o:= .lst ((((us.map fun t=>cw (scl b) t b.ps).map fun x=> -x).map V.int)++ [.int (wh b.lim (scl b)), .int 0])) l;refine U4 pl d _ rfl rfl (((sE.trans s7).trans s8) _ _ aA) (by omega) ?_
    obtain⟨c1,c2⟩:=fin 0 (by rw[eu];rfl) l7 p8 ao l
    exact⟨⟨_,Y6 _ _ _ _ rfl⟩,c1,c2⟩
 intro σ H5 z_;refine hZq fun q_ e_=>?_;obtain⟨⟨v2,v4,v5,v8,v9,rfl⟩,b1,bP,aB,el,eg⟩:=z_;subst e_;rw[xl]at el eg;have e6:=c4 b1 ⟨_,aB⟩;refine Y3 _ rfl (U5 _ rfl _ rfl (fun x dx nx eA ew=>?_));have f1:x≠pl:=fun z=>by rw[z,aB]at nx;cases nx
 have sx:Same H5 (upd (upd H5 dx (.own x)) x (.ins C0 dx [])):=(aa eA).trans (aa (by rw[ae ew.symm];exact nx))
 have o4:∀ {y:Addr} {o:HO},y≠pl->H4 y=some o->(upd (upd H5 dx (.own x)) x (.ins C0 dx [])) y=some o:=fun{y o} n e=>sx _ _ (b1 _ _ n e);have oH:∀ {y:Addr} {o:HO},H y=some o->H5 y=some o:=fun{y o} e=>b1 _ _ (fun z=>by rw[z,cn]at e;cases e) (sD _ _ e)
 have cm:H x=none:=by
  cases qq:H x with
  |none=>rfl
  |some o=>rw[oH qq]at nx;cases nx
 refine Y4 x dx (Y6 lt L3 pl bs.length (O7 us.length (bs.map scl) us ws bP (Lf bs us) rfl hk a8 (o4 ef d8) ⟨(bF.mono e6).mono (Kd.of_same sx),rfl,o4 d7 bb,by rw[yR],sx _ _ aB,⟨el,fun i hi=>?_⟩,fa,by omega,fun D H6 bi ed b6 eT dV eo=>⟨rfl,?_⟩⟩))
 . refine hZq fun q_ e_=>?_;obtain⟨q,a1,a2,_⟩:=eg i hi;subst e_;exact Y3 q a1 (sx _ _ a2)
 refine ah ?_;refine U7 _ rfl D bs.length us.length C (bs.map scl) us ws pl bP (Lf bs us) ⟨by rw[bi];rfl,by rw[ed];exact hk,eT,hz.wb hg us,fun pl' ls' Tb H7 np bx e8 ev=>?_⟩
 have o6:∀ {y:Addr} {o:HO},H y=some o->H6 y=some o:=fun{y o} e=>b6 _ _ (fun z=>by rw[z,cm]at e;cases e) (sx _ _ (oH e))
 have fresh:∀ {y:Addr},(upd (upd H5 dx (.own x)) x (.ins C0 dx [])) y=none->H y=none:=fun{y} n=>by
  cases qq:H y with
  |none=>rfl
  |some o=>rw[sx _ _ (oH qq)]at n;cases n
 have nH:∀ {y z:Addr} {o:HO},H y=some o->H z=none->y≠z:=fun{y z o} e n w=>by rw[w,n]at e;cases e
 have res:=q D H7 us ws pl' ls' Tb ed (fun y o e=>bx _ _ (by rw[bi];exact nH e cm) (nH e (fresh dV)) (nH e (fresh eo)) (o6 e)) e8 ev d5 cd uT a6 (by rw[bi];exact cm) (fresh dV) (fresh eo) (np.elim (fun z=>by rw[z];exact cn) fun z=>by
  cases qq:H pl' with
  |none=>rfl
  |some o=>rw[o6 qq]at z;cases z)
 rw[bi]at res;exact Y3 _ rfl res
end K46
namespace Wg
structure Rg (m n:Nat) (V R:Nat->Vec) (T:Nat->Tb) (r q:Nat->Nat) (J:Nat):Prop where
 inv:Inv m n V R (T 0)
 pm:Pm m n (T 0)
 hr:∀j,j < J->r j < m
 hq:∀j,j < J->q j < n
 nz:∀j,j < J->(T j).ln (r j) (q j)≠0
 nx:∀j,j < J->T (j+1)=piv (T j) (r j) (q j)
variable{q r:Nat->Nat}{T:Nat->Tb}{R:Nat->Vec}
theorem Rg.all{V:Nat->Vec}(H:Rg m n V R T r q J):∀j,j<=J->Inv m n V R (T j)/\Pm m n (T j)
 |0,_=>⟨H.inv,H.pm⟩
 |j+1,h=>by
  have⟨I,P⟩:=H.all j (by omega)
  rw[H.nx j (by omega)]
  exact⟨piv_inv I (H.hr j h) (H.hq j h) (H.nz j h),P.piv (H.hr j h) (H.hq j h)⟩
theorem Rg.side{V:Nat->Vec}(H:Rg m n V R T r q J){k:Nat}(h:j < J):side m (T (j+1)) k↔(k=(T j).hd (q j)\/(side m (T j) k/\k≠(T j).sd (r j))):=by
 rw[H.nx j h];exact ki (H.all j (by omega)).2 (H.hr j h) (H.hq j h)
theorem Rg.leaves{V:Nat->Vec}(H:Rg m n V R T r q J){k a:Nat}(ha:Wg.side m (T a) k):∀d,a+d<=J->¬Wg.side m (T (a+d)) k->∃j,j < J/\(T j).sd (r j)=k
 |0,_,h=>absurd ha h
 |d+1,hd,h=>by
  by_cases z:Wg.side m (T (a+d)) k
  . refine⟨a+d,by omega,?_⟩
    refine Classical.byContradiction fun hne=>h ?_;exact(H.side (j:=a+d) (by omega)).2 (.inr ⟨z,fun e=>hne e.symm⟩)
  . exact H.leaves ha d (by omega) z
theorem Rg.enters{V:Nat->Vec}(H:Rg m n V R T r q J){k a:Nat}(ha:¬Wg.side m (T a) k):∀d,a+d<=J->Wg.side m (T (a+d)) k->∃j,j < J/\(T j).hd (q j)=k
 |0,_,h=>absurd h ha
 |d+1,hd,h=>by
  by_cases z:Wg.side m (T (a+d)) k
  . exact H.enters ha d (by omega) z
  . rcases(H.side (j:=a+d) (by omega)).1 h with e|⟨b,_⟩
    . exact⟨a+d,by omega,e.symm⟩
    . exact absurd b z
def Fk(T:Nat->Tb)(r q:Nat->Nat)(J k:Nat):Prop:=∃j,j < J/\((T j).sd (r j)=k\/(T j).hd (q j)=k)
theorem Rg.const{V:Nat->Vec}(H:Rg m n V R T r q J){k:Nat}(hk:¬Fk T r q J k):∀j,j<=J->(Wg.side m (T j) k↔Wg.side m (T 0) k)
 |0,_=>Iff.rfl
 |j+1,h=>by
  rw[<-H.const hk j (by omega),H.side (j:=j) (by omega)]
  constructor
  . rintro(e|⟨z,_⟩)
    . exact absurd ⟨j,by omega, .inr e.symm⟩ hk
    . exact z
  . exact fun z=> .inr ⟨z,fun e=>hk ⟨j,by omega, .inl e.symm⟩⟩
theorem Rg.top{V:Nat->Vec}(H:Rg m n V R T r q J)(hJ:0 < J)(same:∀k,Wg.side m (T 0) k↔Wg.side m (T J) k):
 ∃g,(∀k,Fk T r q J k->k<=g)/\(∃j,j < J/\(T j).sd (r j)=g)/\∃j,j < J/\(T j).hd (q j)=g:=by
 have l:∀j,j < J->Wg.side m (T j) ((T j).sd (r j)):=fun j h=>Y3 (r j) (H.hr j h) rfl;have en:∀j,j < J->¬Wg.side m (T j) ((T j).hd (q j)):=fun j h ⟨i,hi,e⟩=>(H.all j (by omega)).2.disj hi (H.hq j h) e
 have ne:∀j,j < J->(T j).sd (r j)≠(T j).hd (q j):=fun j h=>(H.all j (by omega)).2.disj (H.hr j h) (H.hq j h)
 obtain⟨g,o,c⟩:=i8 (P:=Fk T r q J) (Y3 0 hJ (.inl rfl)) (m+n) (by
  rintro k ⟨j,b,e|e⟩
  . rw[<-e];exact(H.all j (by omega)).2.sd_lt (H.hr j b)
  . rw[<-e];exact(H.all j (by omega)).2.hd_lt (H.hq j b))
 refine Y3 g c ?_;obtain⟨j,b,e|e⟩:=o
 . refine⟨(Y3 j b e),?_⟩;have s1:Wg.side m (T j) g:=e▸l j b
   have f:¬Wg.side m (T (j+1)) g:=by
    rw[H.side b];rintro(z|⟨_,z⟩)
    . exact ne j b (e.trans z)
    . exact z e.symm
   by_cases z:Wg.side m (T 0) g
   . have:=(same g).1 z;obtain⟨d,rfl⟩:∃d,J=j+1+d:=⟨J - j - 1,by omega⟩
     exact H.enters f d (yV _) this
   . exact H.enters (a:=0) z j (by omega) (by rw[Nat.zero_add];exact s1)
 . refine⟨?_,(Y3 j b e)⟩;have s1:¬Wg.side m (T j) g:=e▸en j b;have f:Wg.side m (T (j+1)) g:=(H.side b).2 (.inl e.symm);by_cases z:Wg.side m (T 0) g
   . exact H.leaves (a:=0) z j (by omega) (by rw[Nat.zero_add];exact s1)
   . have:¬Wg.side m (T J) g:=fun y=>z ((same g).2 y);obtain⟨d,rfl⟩:∃d,J=j+1+d:=⟨J - j - 1,by omega⟩
     exact H.leaves f d (yV _) this
variable{p x:Int}{q s:Nat}{T:Tb}
theorem j4{r:Nat}(hp:T.ln r q < 0)(hq:q < n):val n M (piv T r q) r=val n M T r:=by
 have e:∀c,c≠q->(piv T r q).ln r c=T.ln r c:=by
  intro c hc;show(if r=r then(if c=q then _ else -sg (T.ln r q)*T.ln r c)else _)=_;rw[if_pos rfl,if_neg hc];unfold sg;rw[if_neg (by omega)]
  omega
 unfold val;rw[e n (by omega),e (n+1) (by omega)]
theorem jm{V:Nat->Vec}{r:Nat}(I:Inv m n V R T)(P:Pm m n T)(hr:r < m)(hq:q < n)(hp:T.ln r q < 0)(hi:i < m):
 T.bot*pt m n M (piv T r q) (T.sd i)=T.ln i q*val n M T r+(piv T r q).bot*val n M T i:=by
 have b:=piv_inv I hr hq (by omega)
 have a:=P.piv hr hq;rw[row_at (M:=M) b a I P hi];congr 1;rw[sumN_one (k:=q) hq]
 . congr 1;have e:(piv T r q).sd r=T.hd q:=if_pos rfl;rw[<-e,pt_sd a hr,j4 hp hq]
 . intro c hc hne;have e:(piv T r q).hd c=T.hd c:=if_neg hne;rw[<-e,pt_hd a hc,zm]
structure Sr (m n s o:Nat) (M:Int) (T:Tb) (r q:Nat):Prop where
 hr:r < m
 hq:q < n
 sl:T.sd r < s
 up:0 < T.ln o q
 head:∀c,c < n->0 < T.ln o c->T.hd q<=T.hd c
 neg:T.ln r q < 0
 nn:∀i,i < m->T.sd i < s->0<=val n M T i
 tight:∀i,i < m->T.sd i < s->T.ln i q < 0->val n M T r* -T.ln i q < val n M T i* -T.ln r q\/(val n M T r* -T.ln i q=val n M T i* -T.ln r q/\T.sd r<=T.sd i)
theorem cX{q r:Int}(hp:0 < p)(hq:0 < q)(hr:0 < r)(h1:x*q<=y*p)(h2:y*r<=z*q):x*r<=z*p:=by
 refine Int.le_of_mul_le_mul_right (a:=q) ?_ hq;have a:=Ay h1 (by omega:0<=r)
 have b:=Ay h2 (by omega:0<=p)
 have e1:x*r*q=x*q*r:=by grind
 have c:y*p*r=y*r*p:=by grind
 have d:z*p*q=z*q*p:=by grind
 omega
theorem fL{q r:Int}(hp:0 < p)(hq:0 < q)(hr:0 < r)(h1:x*q < y*p)(h2:y*r<=z*q):x*r < z*p:=by
 refine Int.lt_of_mul_lt_mul_right (a:=q) ?_ (by omega)
 have a:=Int.mul_lt_mul_of_pos_right h1 hr;have b:=Ay h2 (by omega:0<=p)
 have e1:x*r*q=x*q*r:=by grind
 have c:y*p*r=y*r*p:=by grind
 have d:z*p*q=z*q*p:=by grind
 omega
noncomputable def dr(m:Nat)(T:Tb)(q k:Nat):Int:=(if k=T.hd q then T.bot else 0)+sumN m fun i=>if T.sd i=k then T.ln i q else 0
theorem dr_sd(P:Pm m n T)(hq:q < n)(hi:i < m):dr m T q (T.sd i)=T.ln i q:=by
 unfold dr;rw[if_neg (P.disj hi hq),sumN_one hi fun j a hne=>if_neg fun e=>hne (P.inj a hi e),if_pos rfl];omega
theorem dr_hd(P:Pm m n T){c:Nat}(hc:c < n):dr m T q (T.hd c)=if T.hd c=T.hd q then T.bot else 0:=by
 unfold dr;rw[sumN_zero fun j a=>if_neg (P.disj a hc)];omega
theorem dr_row{V:Nat->Vec}{T':Tb}(I:Inv m n V R T)(P:Pm m n T)(hq:q < n)(I':Inv m n V R T')(P':Pm m n T')(hi:i < m):T'.bot*dr m T q (T'.sd i)=sumN n fun c=>T'.ln i c*dr m T q (T'.hd c):=by
 rw[I'.row (dr m T q) 0 0 (fun t ht=>?_) hi]
 . omega
 . rw[P' fun k=>dr m T q k*V k t,<-P fun k=>dr m T q k*V k t];rw[sumN_congr (n:=m) (g:=fun i=>T.ln i q*V (T.sd i) t) fun i hi=>by rw[dr_sd P hq hi],I.col hq ht]
   rw[sumN_one (k:=q) hq fun c hc hne=>by rw[dr_hd P hc,if_neg fun e=>hne (P.injh hc hq e),zQ],dr_hd P hq,if_pos rfl]
   omega
structure Rr (m n s o z:Nat) (V R:Nat->Vec) (M:Int) (T:Nat->Tb) (r q:Nat->Nat) (J:Nat):Prop where
 inv:Inv m n V R (T 0)
 pm:Pm m n (T 0)
 ho:o < m
 hz:(T 0).sd o=z
 zs:s<=z
 st:∀j,j < J->Sr m n s o M (T j) (r j) (q j)
 nx:∀j,j < J->T (j+1)=piv (T j) (r j) (q j)
variable{z:Nat}{q:Nat->Nat}{T:Nat->Tb}
theorem Rr.rg{V:Nat->Vec}(H:Rr m n s o z V R M T r q J):Rg m n V R T r q J:=
 ⟨H.inv,H.pm,fun j h=>(H.st j h).hr,fun j h=>(H.st j h).hq,fun j h=>by have:=(H.st j h).neg;omega,H.nx⟩
theorem Rr.sdo{V:Nat->Vec}(H:Rr m n s o z V R M T r q J):∀j,j<=J->(T j).sd o=z
 |0,_=>H.hz
 |j+1,h=>by
  have e:=H.sdo j (by omega)
  rw[H.nx j (by omega)]
  show(if o=r j then _ else(T j).sd o)=z
  have:o≠r j:=fun x=>by
   have h1:=(H.st j (by omega)).sl
   have h2:=H.zs;rw[<-x]at h1;omega
  rw[if_neg this,e]
theorem Rr.obj{V:Nat->Vec}(H:Rr m n s o z V R M T r q J)(h:j < J):(T j).bot*val n M (T (j+1)) o=(T j).ln o (q j)*val n M (T j) (r j)+(T (j+1)).bot*val n M (T j) o:=by
 have S:=H.st j h;have A:=H.rg.all j (by omega)
 have a:=H.rg.all (j+1) h;have p:=jm (M:=M) A.1 A.2 S.hr S.hq S.neg H.ho;rw[<-H.nx j h,H.sdo j (by omega),<-H.sdo (j+1) h,pt_sd a.2 H.ho]at p
 exact p
theorem Rr.mono{V:Nat->Vec}(H:Rr m n s o z V R M T r q J)(h:j < J):val n M (T j) o*(T (j+1)).bot<=val n M (T (j+1)) o*(T j).bot:=by
 have S:=H.st j h;have:=H.obj h;have:=AD (AG S.up) (S.nn _ S.hr S.sl);have e1:=A9 (val n M (T j) o) (T (j+1)).bot;have a:=A9 (val n M (T (j+1)) o) (T j).bot;omega
theorem Rr.chain{V:Nat->Vec}(H:Rr m n s o z V R M T r q J){i:Nat}:∀d,i+d<=J->val n M (T i) o*(T (i+d)).bot<=val n M (T (i+d)) o*(T i).bot
 |0,_=>Al _
 |d+1,h=>cX (H.rg.all i (by omega)).1.pos (H.rg.all (i+d) (by omega)).1.pos (H.rg.all (i+d+1) h).1.pos (H.chain d (by omega)) (H.mono (j:=i+d) (by omega))
theorem Rr.flat{V:Nat->Vec}(H:Rr m n s o z V R M T r q J)(same:∀k,Wg.side m (T 0) k↔Wg.side m (T J) k)(h:j < J):val n M (T j) (r j)=0:=by
 have f:=H.rg.all 0 (by omega)
 have g:=H.rg.all J (by omega)
 have e:(T J).bot*val n M (T 0) o=(T 0).bot*val n M (T J) o:=by
  have p:=row_at (M:=M) f.1 f.2 g.1 g.2 H.ho;rw[H.sdo J (by omega),<-H.sdo 0 (by omega),pt_sd f.2 H.ho,sumN_zero]at p
  . omega
  . intro c hc;rcases f.2.cov (g.2.hd_lt hc)with x|⟨d,hd,x⟩
    . obtain⟨i,hi,y⟩:=(same _).1 x;exact absurd y (g.2.disj hi hc)
    . rw[<-x,pt_hd f.2 hd,zm]
 have S:=H.st j h;have n0:=S.nn _ S.hr S.sl;refine Classical.byContradiction fun hne=>?_
 have st:val n M (T j) o*(T (j+1)).bot < val n M (T (j+1)) o*(T j).bot:=by
  have:=H.obj h;have:=Au S.up (by omega:0 < val n M (T j) (r j))
  have e1:=A9 (val n M (T j) o) (T (j+1)).bot;have u:=A9 (val n M (T (j+1)) o) (T j).bot;omega
 have c1:=H.chain (i:=0) j (by omega)
 rw[Nat.zero_add]at c1;obtain⟨d,hd⟩:∃d,J=j+1+d:=⟨J - j - 1,by omega⟩
 have v:=H.chain (i:=j+1) d (by omega)
 rw[<-hd]at v;have t:=(H.rg.all j (by omega)).1.pos
 have l:=(H.rg.all (j+1) h).1.pos;have t1:=fL t l g.1.pos st v;have t2:=cX f.1.pos t g.1.pos c1 (AG t1)
 have t3:val n M (T 0) o*(T J).bot < val n M (T J) o*(T 0).bot:=by
  refine Int.lt_of_mul_lt_mul_right (a:=(T j).bot) ?_ (by omega)
  have a:=Ay c1 (by have:=g.1.pos;omega:0<=(T J).bot)
  have b:=Int.mul_lt_mul_of_pos_right t1 f.1.pos;have e1:val n M (T 0) o*(T J).bot*(T j).bot=val n M (T 0) o*(T j).bot*(T J).bot:=by grind
  have u:val n M (T j) o*(T 0).bot*(T J).bot=val n M (T j) o*(T J).bot*(T 0).bot:=by grind
  have w:val n M (T J) o*(T 0).bot*(T j).bot=val n M (T J) o*(T j).bot*(T 0).bot:=by grind
  omega
 have e1:=A9 (val n M (T 0) o) (T J).bot;have u:=A9 (val n M (T J) o) (T 0).bot;omega
theorem Rr.zero1{V:Nat->Vec}(H:Rr m n s o z V R M T r q J)(h:j < J)(v:val n M (T j) (r j)=0){k:Nat}(hk:k < m+n):pt m n M (T (j+1)) k=0↔pt m n M (T j) k=0:=by
 have S:=H.st j h;have A:=H.rg.all j (by omega)
 have a:=H.rg.all (j+1) h;rcases A.2.cov hk with⟨i,hi,e⟩|⟨c,hc,e⟩
 . have p:=jm (M:=M) A.1 A.2 S.hr S.hq S.neg hi;rw[<-H.nx j h,v,zm,Ax,<-pt_sd A.2 hi,e]at p;have f:=A.1.pos;have p2:=a.1.pos;constructor
   . intro x;rw[x,zm]at p;exact(Int.mul_eq_zero.1 p.symm).resolve_left (by omega)
   . intro x;rw[x,zm]at p;exact(Int.mul_eq_zero.1 p).resolve_left (by omega)
 . have b:pt m n M (T j) k=0:=by rw[<-e,pt_hd A.2 hc]
   have d:pt m n M (T (j+1)) k=0:=by
    by_cases ec:c=q j
    . have y:(T (j+1)).sd (r j)=k:=by
       rw[H.nx j h,<-e,ec];exact if_pos rfl
      rw[<-y,pt_sd a.2 S.hr,H.nx j h,j4 S.neg S.hq,v]
    . have y:(T (j+1)).hd c=k:=by
       rw[H.nx j h,<-e];exact if_neg ec
      rw[<-y,pt_hd a.2 hc]
   exact⟨fun _=>b,fun _=>d⟩
theorem Rr.zero{V:Nat->Vec}(H:Rr m n s o z V R M T r q J)(v:∀j,j < J->val n M (T j) (r j)=0){k:Nat}(hk:k < m+n):∀j,j<=J->(pt m n M (T j) k=0↔pt m n M (T 0) k=0)
 |0,_=>Iff.rfl
 |j+1,h=>(H.zero1 h (v j h) hk).trans (H.zero v hk j (by omega))
theorem Rr.fick{V:Nat->Vec}(H:Rr m n s o z V R M T r q J)(v:∀j,j < J->val n M (T j) (r j)=0){k:Nat}(f:Fk T r q J k)(hj:j<=J):pt m n M (T j) k=0:=by
 obtain⟨i,hi,e|e⟩:=f
 . have A:=H.rg.all i (by omega)
   have S:=H.st i hi;have hk:k < m+n:=by rw[<-e];exact A.2.sd_lt S.hr
   refine(H.zero v hk j hj).2 ((H.zero v hk i (by omega)).1 ?_)
   rw[<-e,pt_sd A.2 S.hr,v i hi]
 . have A:=H.rg.all i (by omega)
   have S:=H.st i hi;have hk:k < m+n:=by rw[<-e];exact A.2.hd_lt S.hq
   refine(H.zero v hk j hj).2 ((H.zero v hk i (by omega)).1 ?_)
   rw[<-e,pt_hd A.2 S.hq]
theorem Rr.no_circle{V:Nat->Vec}(H:Rr m n s o z V R M T r q J)(hJ:0 < J)(same:∀k,Wg.side m (T 0) k↔Wg.side m (T J) k):False:=by
 have v:∀j,j < J->val n M (T j) (r j)=0:=fun j h=>H.flat same h;obtain⟨g,p,⟨a,ha,y⟩,⟨b,hb,w⟩⟩:=H.rg.top hJ same;have A:=H.rg.all a (by omega)
 have B:=H.rg.all b (by omega)
 have S:=H.st a ha;have l:=H.st b hb;have d:=dr_row A.1 A.2 S.hq B.1 B.2 H.ho;rw[H.sdo b (by omega),<-H.sdo a (by omega),dr_sd A.2 S.hq H.ho]at d
 have pos:0 < (T b).bot*(T a).ln o (q a):=Au B.1.pos S.up
 have le:∀c,c < n->(T b).ln o c*dr m (T a) (q a) ((T b).hd c)<=0:=by
  intro c hc;by_cases ec:c=q b
  . subst ec;rw[w,<-y,dr_sd A.2 S.hq S.hr];exact AG (Int.mul_neg_of_pos_of_neg l.up S.neg)
  . have ng:(T b).hd c≠g:=fun e=>ec (B.2.injh hc l.hq (e.trans w.symm))
    have low:Fk T r q J ((T b).hd c)->(T b).hd c < g/\(T b).ln o c<=0:=by
     intro f;have h1:=p _ f;refine⟨by omega,Classical.byContradiction fun x=>?_⟩
     have:=l.head c hc (by omega)
     omega
    rcases A.2.cov (B.2.hd_lt hc)with⟨i,hi,e⟩|⟨c',u,e⟩
    . have f:Fk T r q J ((T b).hd c):=by
       refine Classical.byContradiction fun f=>?_;have h1:Wg.side m (T a) ((T b).hd c):=Y3 i hi e;obtain⟨i',t,e'⟩:=(H.rg.const f b (by omega)).2 ((H.rg.const f a (by omega)).1 h1)
       exact B.2.disj t hc e'
      have⟨l1,l2⟩:=low f;rw[<-e,dr_sd A.2 S.hq hi];by_cases x:(T a).ln i (q a) < 0
      . have zi:val n M (T a) i=0:=by rw[<-pt_sd A.2 hi,e];exact H.fick v f (by omega)
        have sl:=S.sl;have:=S.tight i hi (by omega) x
        rw[zi,v a ha,zQ,zQ]at this;omega
      . exact Ad l2 (by omega)
    . rw[<-e,dr_hd A.2 u];by_cases x:(T a).hd c'=(T a).hd (q a)
      . rw[if_pos x];have⟨l1,l2⟩:=low (Y3 a ha (.inr (x.symm.trans e)));exact Ad l2 (by have:=A.1.pos;omega)
      . rw[if_neg x,zm];exact Al _
 have:=jZ le l.hq;have:=le _ l.hq;omega
theorem Rr.part{V:Nat->Vec}(H:Rr m n s o z V R M T r q J){d:Nat}(h:i+d<=J):Rr m n s o z V R M (fun k=>T (i+k)) (fun k=>r (i+k)) (fun k=>q (i+k)) d:=
 ⟨(H.rg.all i (by omega)).1,(H.rg.all i (by omega)).2,H.ho,H.sdo i (by omega),H.zs,fun j a=>H.st (i+j) (by omega),fun j a=>H.nx (i+j) (by omega)⟩
theorem Rr.no_twice{V:Nat->Vec}(H:Rr m n s o z V R M T r q J)(hij:i < j)(hj:j<=J)(e:code (Wg.side m (T i)) (m+n)=code (Wg.side m (T j)) (m+n)):False:=by
 obtain⟨d,rfl⟩:∃d,j=i+d:=⟨j - i,by omega⟩
 refine(H.part hj).no_circle (by omega) fun k=>?_
 show Wg.side m (T i) k↔Wg.side m (T (i+d)) k;by_cases hk:k < m+n
 . exact fg (m+n) e k hk
 . constructor
   . rintro⟨a,ha,z⟩;have:=(H.rg.all i (by omega)).2.sd_lt ha
     omega
   . rintro⟨a,ha,z⟩;have:=(H.rg.all (i+d) hj).2.sd_lt ha;omega
theorem Rr.few{V:Nat->Vec}(H:Rr m n s o z V R M T r q J):J < 2^(m+n):=by
 refine sV (2^(m+n)) J (fun i=>code (Wg.side m (T i)) (m+n)) (fun i hi=>jN _ _) fun i j hi a e=>?_;rcases Nat.lt_trichotomy i j with h|h|h
 . exact(H.no_twice h a e).elim
 . exact h
 . exact(H.no_twice h hi e.symm).elim
theorem Sr.keep{V:Nat->Vec}{T:Tb}{r q:Nat}(I:Inv m n V R T)(P:Pm m n T)(S:Sr m n s o M T r q)(hi:i < m)(hs:(piv T r q).sd i < s):0<=val n M (piv T r q) i:=by
 have c:=S.nn _ S.hr S.sl;by_cases e:i=r
 . subst e;rw[j4 S.neg S.hq];exact c
 . have ei:(piv T r q).sd i=T.sd i:=if_neg e;have d:=P.piv S.hr S.hq;have p:=jm (M:=M) I P S.hr S.hq S.neg hi;rw[<-ei,pt_sd d hi]at p;rw[ei]at hs;have f:=S.nn i hi hs
   have hb:(piv T r q).bot= -T.ln r q:=by
    show((T.ln r q).natAbs:Int)=_;have:=S.neg;omega
   rw[hb]at p;have j:=S.neg
   have all:0<=T.ln i q*val n M T r+ -T.ln r q*val n M T i:=by
    have e1:val n M T r* -T.ln i q= -(T.ln i q*val n M T r):=by grind
    have g:val n M T i* -T.ln r q= -T.ln r q*val n M T i:=by grind
    by_cases x:T.ln i q < 0
    . have:=S.tight i hi hs x;omega
    . have a:=AD (by omega:0<=T.ln i q) c
      have b:=AD (by omega:0<= -T.ln r q) f
      omega
   refine Classical.byContradiction fun h=>?_;have:=Int.mul_neg_of_pos_of_neg I.pos (by omega:val n M (piv T r q) i < 0)
   omega
theorem det_last:∀(m:Nat) (B:Nat->Vec),(∀t,t<=m->B m t=if t=m then 1 else 0)->det (m+1) B=det m B
 |0,B,h=>by
  have:=h 0 (yV _);simp only[det,sumN,sgn];rw[this];decide
 |m+1,B,h=>by
  have a:det (m+1) B=sumN (m+1) fun j=>sgn j*B j 0*det m (skip j B):=rfl;have e1:det (m+1+1) B=(sumN (m+1) fun j=>sgn j*B j 0*det (m+1) (skip j B))+sgn (m+1)*B (m+1) 0*det (m+1) (skip (m+1) B):=rfl;rw[a,e1,h 0 (by omega),if_neg (by omega),zm,zQ,Ap]
  refine sumN_congr fun j b=>?_;rw[det_last m (skip j B) fun t ht=>?_];show B (if m < j then m else m+1) (t+1)=_;rw[if_neg (by omega),h (t+1) (by omega)]
  by_cases e:t=m
  . rw[if_pos e,if_pos (by omega)]
  . rw[if_neg e,if_neg (by omega)]
noncomputable def V1(m n:Nat)(L:Nat->Nat->Int)(cf:Nat->Int):Nat->Vec:=fun k t=>if t < m then(if k=m+n then 0 else V0 m L k t)else if k < m then 0 else if k=m+n then 1 else -cf (k - m)
noncomputable def R1(m:Nat)(L:Nat->Nat->Int):Nat->Vec:=fun c t=>if t < m then R0 L c t else 0
end Wg
namespace K46
open PySem L2 Mth Tre Wd Su Tw Fm
noncomputable def oln(m n:Nat)(T:Wg.Tb)(cf:Nat->Int)(c:Nat):Int:=Wg.sumN n fun j=>cf j*lno m n T (m+j) c
noncomputable def ext(m n:Nat)(T:Wg.Tb)(cf:Nat->Int):Wg.Tb:=⟨T.bot,fun i c=>if i < m then T.ln i c else oln m n T cf c,fun i=>if i < m then T.sd i else m+n,T.hd⟩
variable{T:Wg.Tb}
theorem t7(P:Wg.Pm m n T):Wg.Pm (m+1) n (ext m n T cf):=by
 intro f;have h:=P f
 have e1:(Wg.sumN m fun i=>f ((ext m n T cf).sd i))=Wg.sumN m fun i=>f (T.sd i):=Wg.sumN_congr fun i hi=>by
  show f (if i < m then T.sd i else m+n)=_;rw[if_pos hi]
 have a:f ((ext m n T cf).sd m)=f (m+n):=by
  show f (if m < m then T.sd m else m+n)=_;rw[if_neg (zN _)]
 rw[Wg.sumN,e1,a,show m+1+n=m+n+1 from by omega,Wg.sumN,<-h]
 show _+_+(Wg.sumN n fun c=>f (T.hd c))=_;omega
theorem wq(P:Wg.Pm m n T)(c:Nat):oln m n T cf c=(Wg.sumN m fun i=>T.ln i c*if T.sd i < m then 0 else cf (T.sd i - m))+if c < n then T.bot*(if T.hd c < m then 0 else cf (T.hd c - m))else 0:=by
 unfold oln
 have e1:∀j,j < n->cf j*lno m n T (m+j) c=(Wg.sumN m fun i=>cf j*if T.sd i=m+j then T.ln i c else 0)+cf j*if c < n/\T.hd c=m+j then T.bot else 0:=fun j a=>by
  unfold lno;rw[Int.mul_add,Wg.sumN_mul]
 rw[Wg.sumN_congr e1,Wg.sumN_add,<-Wg.sumN_comm];congr 1
 . refine Wg.sumN_congr fun i hi=>?_;by_cases z:T.sd i < m
   . rw[if_pos z,zm];exact Wg.sumN_zero fun j a=>by rw[if_neg (by omega),zm]
   . have:=P.sd_lt hi;rw[if_neg z,Wg.sumN_one (k:=T.sd i - m) (by omega) fun j a hne=>by rw[if_neg (by omega),zm],if_pos (by omega),A9]
 . by_cases hc:c < n
   . rw[if_pos hc];by_cases z:T.hd c < m
     . rw[if_pos z,zm];exact Wg.sumN_zero fun j a=>by rw[if_neg (by omega),zm]
     . have:=P.hd_lt hc;rw[if_neg z,Wg.sumN_one (k:=T.hd c - m) (by omega) fun j a hne=>by rw[if_neg (by omega),zm],if_pos ⟨hc,by omega⟩,A9]
   . rw[if_neg hc];exact Wg.sumN_zero fun j a=>by rw[if_neg fun y=>hc y.1,zm]
theorem om(I:Wg.Inv m n (Wg.V0 m L) (Wg.R0 L) T)(P:Wg.Pm m n T):Wg.Inv (m+1) n (Wg.V1 m n L cf) (Wg.R1 m L) (ext m n T cf):=by
 have s1:∀i,i < m->(ext m n T cf).sd i=T.sd i:=fun i hi=>if_pos hi;have f:(ext m n T cf).sd m=m+n:=if_neg (zN _);have l1:∀i c,i < m->(ext m n T cf).ln i c=T.ln i c:=fun i c hi=>if_pos hi;have l2:∀c,(ext m n T cf).ln m c=oln m n T cf c:=fun c=>if_neg (zN _)
 have a:∀k t,t < m->k≠m+n->Wg.V1 m n L cf k t=Wg.V0 m L k t:=fun k t ht hk=>by
  unfold Wg.V1;rw[if_pos ht,if_neg hk]
 have b:∀t,t<=m->Wg.V1 m n L cf (m+n) t=if t=m then 1 else 0:=fun t ht=>by
  unfold Wg.V1;by_cases z:t < m
  . rw[if_pos z,if_pos rfl,if_neg (by omega)]
  . rw[if_neg z,if_neg (by omega),if_pos rfl,if_pos (by omega)]
 have d:∀k,k≠m+n->Wg.V1 m n L cf k m= -(if k < m then 0 else cf (k - m)):=fun k hk=>by
  unfold Wg.V1;rw[if_neg (zN _)];by_cases z:k < m
  . rw[if_pos z,if_pos z];rfl
  . rw[if_neg z,if_neg z,if_neg hk]
 refine⟨I.pos,?_,fun c t hc ht=>?_⟩
 . rw[Wg.det_last m _ fun t ht=>by rw[f];exact b t ht]
   rw[Wg.det_congr m (C:=fun i=>Wg.V0 m L (T.sd i)) fun i c hi hc=>by rw[s1 i hi];exact a _ c hc (by have:=P.sd_lt hi;omega)]
   exact I.det
 . rw[Wg.sumN,f,l2];by_cases z:t < m
   . rw[b t (by omega),if_neg (by omega),zm,Ap]
     rw[Wg.sumN_congr (g:=fun i=>T.ln i c*Wg.V0 m L (T.sd i) t) fun i hi=>by rw[s1 i hi,l1 i c hi,a _ t z (by have:=P.sd_lt hi;omega)],I.ln c t hc z]
     congr 1;unfold Wg.Tb.W;by_cases hn:c < n
     . rw[if_pos hn,if_pos hn];show _= -Wg.V1 m n L cf (T.hd c) t;rw[a _ t z (by have:=P.hd_lt hn;omega)]
     . rw[if_neg hn,if_neg hn];unfold Wg.R1;rw[if_pos z]
   . have e:t=m:=by omega
     subst e;rw[b t (yV _),if_pos rfl,Int.mul_one,wq P]
     have e1:(Wg.sumN t fun i=>(ext t n T cf).ln i c*Wg.V1 t n L cf ((ext t n T cf).sd i) t)= -1*Wg.sumN t fun i=>T.ln i c*if T.sd i < t then 0 else cf (T.sd i - t):=by
      rw[<-Wg.sumN_mul];refine Wg.sumN_congr fun i hi=>?_;rw[s1 i hi,l1 i c hi,d _ (by have:=P.sd_lt hi;omega)]
      grind
     rw[e1];unfold Wg.Tb.W;by_cases hn:c < n
     . rw[if_pos hn,if_pos hn];show _=T.bot* -Wg.V1 t n L cf (T.hd c) t;rw[d _ (by have:=P.hd_lt hn;omega)]
       grind
     . rw[if_neg hn,if_neg hn];unfold Wg.R1;rw[if_neg z];grind
theorem sz1{M:Nat}{T':Wg.Tb}(h:Wg.Sz m n L M)(hc:∀j,j < n->(cf j).natAbs<=M)(I:Wg.Inv (m+1) n (Wg.V1 m n L cf) (Wg.R1 m L) T')(P:Wg.Pm (m+1) n T'):
 T'.bot.natAbs<=Wg.fac (m+1)*M^(m+1)/\∀i c,i < m+1->c < n+2->(T'.ln i c).natAbs<=Wg.fac (m+1)*M^(m+1):=by
 have b:∀k t,t < m+1->(Wg.cut (m+1) n (Wg.V1 m n L cf) k t).natAbs<=M:=by
  intro k t ht;have d:=h.one;unfold Wg.cut;split
  . rename_i e;unfold Wg.V1;split
    . rename_i z;split
      . exact zc _
      . exact h.V k t (by omega) z
    . split
      . exact zc _
      . split
        . exact d
        . rw[A4];exact hc _ (by omega)
  . exact zc _
 refine⟨(I.cut P).bot_le b,fun i c hi a=>(I.cut P).ln_le b (fun c t a ht=>?_) hi a⟩;unfold Wg.R1;split
 . exact h.le t c (by assumption) a
 . exact zc _
end K46
namespace Tre
open PySem PySem.Spec PySem.W PyProof.Rows L2 Srt
def rLtP:R2:=fun x y H Q=>∃(p q l b:Addr) (u v i u' v' i':Int),x= .ref p/\y= .ref q/\H p=some (.tup [.ref l, .int i])/\H q=some (.tup [.ref b, .int i'])/\l≠b/\H l=some (.lst [.int u, .int v])/\H b=some (.lst [.int u', .int v'])/\
 Q (.bl (decide (u < u'\/(u=u'/\v < v')\/(u=u'/\v=v'/\i < i')))) H
theorem wj(hu:X.A.units+60 < cLine):OpR X (compareOp .Lt) rLtP:=by
 intro pins s σ H x y vx vy Q I rx ry h;refine hZq fun q_ e_=>?_;obtain⟨p,q,l,b,u,v,i,u',v',i',rfl,rfl,hp,hq,hne,hl,hb,k⟩:=h;subst e_;cases rx;cases ry;have at_:∀a c:Int,TrsAt H [.int a, .int c] [.int a, .int c]:=fun a c=> .cons (by unfold TrAt;rfl) (.cons (by unfold TrAt;rfl) .nil)
 have f:∀a c:Int,Cm (.int a) (.int c):=fun a c=>by unfold Cm;trivial
 have aA:Cms [.int u, .int v] [.int u', .int v']:=by
  unfold Cms;cases k:Tre.eqT (.int u) (.int u')
  . exact .inr ⟨rfl,f _ _⟩
  . refine .inl ⟨rfl,?_⟩;unfold Cms;cases k2:Tre.eqT (.int v) (.int v')
    . exact .inr ⟨rfl,f _ _⟩
    . exact .inl ⟨rfl,by unfold Cms;trivial⟩
 have dep:∀a c:Int,Trs.depth [.int a, .int c]<=40:=fun a c=>by simp[Trs.depth,Tr.depth]
 have m:∀a c:Int,Trs.pure [.int a, .int c]:=fun a c=>by simp[Trs.pure,Tr.pure]
 refine hZq fun q_ e_=>?_;obtain⟨its,n,r,e,z⟩:=I.lst hl;obtain⟨g,n2,r2,e2,z2⟩:=I.lst hb;obtain⟨as,q0,p0,_⟩:=I.tuple (SqT.of hp);obtain⟨bs,q1,p1,_⟩:=I.tuple (SqT.of hq);subst e_;have j:X.A.in1.in1.units+40+1 < cLine:=by show X.A.units+1+1+40+1 < cLine;omega
 have hx:=eF (A:=X.A.in1.in1) I j (fun d pp cc a1 a2 b1 b2=>dG I 40 d pp cc a1 a2 b1 b2 j) (dep u v) (.inl (m u v)) aA (at_ u v) (at_ u' v') r r2;have o:=iN (A:=X.A.in1) e e2 (by show X.A.units+1 < cLine;omega) (by simpa using hx)
 have ao:=SeqAt.EqAt.of_refs hne (sI (A:=X.A.in1) (by show X.A.units+1+50 < cLine;omega) I hl hb (at_ u v) (at_ u' v') (.inl (m u v)) (dep u v)).1
 have l2:=r.length;have l3:=r2.length
 rw[show decide (its.toArray.size < g.toArray.size)=decide (([.int u, .int v]:List Tr).length < ([.int u', .int v']:List Tr).length)by
  rw[yX,yX,<-l2,<-l3];rfl]at o
 cases q0 with
 |cons ra aB=>
  cases aB with
  |cons rb rn=>
   cases rn
   cases q1 with
   |cons rc aT=>
    cases aT with
    |cons rd rn=>
     cases rn;cases ra;cases rc;have ai:X.A.in1.units+0+1 < cLine:=by show X.A.units+1+0+1 < cLine;omega
     have aC:=ga I (A:=X.A.in1) (t:= .int i) (u:= .int i') 0 (by simp[Tr.depth]) (.inl (by simp[Tr.pure])) (by unfold TrAt;rfl) (by unfold TrAt;rfl) rb rd ai
     have au:=dG I 0 (A:=X.A.in1) (t:= .int i) (u:= .int i') (by simp[Tr.depth]) (.inl (by simp[Tr.pure])) (f i i') (by unfold TrAt;rfl) (by unfold TrAt;rfl) rb rd ai
     have:=gK (A:=X.A) p0 p1 (by omega) (q:= [(eqTs [.int u, .int v] [.int u', .int v'],lexV (decide (([.int u, .int v]:List Tr).length < ([.int u', .int v']:List Tr).length)) (qs [.int u, .int v] [.int u', .int v'])),(Tre.eqT (.int i) (.int i'),ltT (.int i) (.int i'))])
      (by simp only[bD];exact⟨ao,fun _=>o,fun _=>⟨aC,fun _=>au,fun _=>trivial⟩⟩)
     refine this X.prog X.w X.xe _ (Y5 (.bl (decide (u < u'\/(u=u'/\v < v')\/(u=u'/\v=v'/\i < i')))) H I ?_ k);show Value.bool _=Value.bool _;congr 1;refine aU ?_;rw[decide_eq_true_iff];have a1:(eqTs [.int u, .int v] [.int u', .int v']=true)↔(u=u'/\v=v'):=by rw[eqTs_code];simp[codes,code]
     have a2:(lexV (decide (([.int u, .int v]:List Tr).length < ([.int u', .int v']:List Tr).length)) (qs [.int u, .int v] [.int u', .int v'])=true)↔(u < u'\/(u=u'/\v < v')):=by rw[df];simp[codes,code,LtCs,LtC]
     have a3:(Tre.eqT (.int i) (.int i')=true)↔i=i':=by rw[cW];simp[code]
     have a4:(ltT (.int i) (.int i')=true)↔i < i':=by rw[ltT_iff];simp[code,LtC]
     simp only[lexV];by_cases z1:u=u'/\v=v'
     . rw[if_pos (a1.mpr z1)];by_cases z2:i=i'
       . rw[if_pos (a3.mpr z2)];simp;omega
       . rw[if_neg fun y=>z2 (a3.mp y),a4];omega
     . rw[if_neg fun y=>z1 (a1.mp y),a2];omega
end Tre
namespace K46
open PySem L2 Mth Tre Wd Su Tw Fm
def Tgt(n:Nat)(T:Wg.Tb)(r r' q:Nat):Prop:=T.ln r n* -T.ln r' q < T.ln r' n* -T.ln r q\/(T.ln r n* -T.ln r' q=T.ln r' n* -T.ln r q/\T.ln r (n+1)* -T.ln r' q < T.ln r' (n+1)* -T.ln r q)\/
 (T.ln r n* -T.ln r' q=T.ln r' n* -T.ln r q/\T.ln r (n+1)* -T.ln r' q=T.ln r' (n+1)* -T.ln r q/\((T.sd r:Nat):Int) < ((T.sd r':Nat):Int))
instance {n:Nat} {T:Wg.Tb} {r r' q:Nat}:Decidable (Tgt n T r r' q):=by unfold Tgt;infer_instance
def qQ:Sp:=fun vs H Q _=>∃(D:TA) (m mm n:Nat) (scs:List Int) (us:List Tr) (ws:List V) (pl:Addr) (ls:List V) (T:Wg.Tb) (r r' q:Nat),vs= [.ref D.a, .int (r:Int), .int (r':Int), .int (q:Int)]/\Tk K D.C/\Tab D m mm n scs us ws pl ls T H/\r < m/\r' < m/\q < n/\(∀i c,i < m->c < n+2->Big (T.ln i c))/\
 ∀H',Same H H'->Q (.bl (decide (Tgt n T r r' q))) H'
theorem scTgr:FnScope ["table","at","other","column","line","beside","nearer","farther"] ["table","at","other","column"] (af sTgr):= .of
theorem wE(F:Fun K "is_tighter" "is_tighter" sTgr f fd)(B:Blt mg):FnOk P w K mg base CX0 1 f fd ["table","at","other","column"] (qQ (K:=K)):=by
 refine F.okb scTgr fun vs H Q E h=>?_;refine hZq fun q_ e_=>?_;obtain⟨D,m,mm,n,scs,us,ws,pl,ls,T,r,r',q,rfl,hk,v,d,c,hq,bl,k⟩:=h;subst e_;refine⟨rfl,fun aC A outer s hr=>?_⟩;have ao:(A.deeper (PyProof.Rows.envOfC (Str.ofString "is_tighter") (af sTgr) s.heap.objs.size f aC)).units+60 < cLine:=by have:=hr.units;omega
 have a1:(["number","column","beside"]:List Str).Nodup:=by decide +kernel
 have ai:(["number","column","line"]:List Str).Nodup:=by decide +kernel
 refine Y3 _ (ac (dZ (aX (a7 (aq am (aI (pv 0) rfl) (pv 1) fun _ _=>rfl) (a7 (aq am (aI (pv 0) rfl) (pv 2) fun _ _=>rfl) a9))) (ba (n:=2) rfl (aj (dL (i:=4) scTgr.nd rfl (Or.inr rfl)) (aj (dL (i:=5) scTgr.nd rfl (Or.inr rfl)) aQ))))
  (ac (cK (i:=6) (NC:= ["number","column","beside"]) (mp:= [none,some 3,some 5]) rfl scTgr.nd rfl rfl rfl (cD (K:=K) rfl (gZ (r:=rSlL K) jg (pv 4) (jp (br aW ad)) jq))
   (fun _ _ _ _ _=>pgA 0 a1) (fun _ _ _ _ _=>aV) (fun _ _ _ _ _=>av aR (pv 0) (br aW (aq (r:=rIxL K) am (pv 2) (pv 1) fun _ _=>rfl))))
  (ac (cK (i:=7) (NC:= ["number","column","line"]) (mp:= [none,some 3,some 4]) rfl scTgr.nd rfl rfl rfl (cD (K:=K) rfl (gZ (r:=rSlL K) jg (pv 5) (jp (br aW ad)) jq))
   (fun _ _ _ _ _=>pgA 0 ai) (fun _ _ _ _ _=>aV) (fun _ _ _ _ _=>av aR (pv 0) (br aW (aq (r:=rIxL K) am (pv 2) (pv 1) fun _ _=>rfl))))
  (ag (aD (gj (wj ao) (aX (a7 (pv 6) (a7 (aq am (aI (pv 0) rfl) (pv 1) fun _ _=>rfl) a9))) (aX (a7 (pv 7) (a7 (aq am (aI (pv 0) rfl) (pv 2) fun _ _=>rfl) a9))) (aE _))))))) ?_
 have a2:(20000:Nat)<=sizeLine:=by decide +kernel
 have n64:=v.n64;have fl:∀b pl,(flds D pl b).lookup (Str.ofString "lines")=some (.ref pl):=fun b pl=>rfl;have fs:∀b pl,(flds D pl b).lookup (Str.ofString "sides")=some (.ref D.pss):=fun b pl=>rfl;refine hZq fun q_ e_=>?_;obtain⟨q1,e1,h1,_,_⟩:=v.ro.2 r d;obtain⟨q2,e2,h2,_,_⟩:=v.ro.2 r' c;subst e_;have neg:∀ {x:Int},Big x->Big (-x):=fun{x} b=>by unfold Big at *;rw[A4];exact b
 refine O4 _ rfl D.a D.C D.dx _ _ rfl v.ob hk.cls hk.nl (fl _ _) _ rfl pl _ (r:Int) _ rfl rfl (SqL.of v.li) (ax e1) (O4 _ rfl D.a D.C D.dx _ _ rfl v.ob hk.cls hk.nl (fl _ _) _ rfl pl _ (r':Int) _ rfl rfl (SqL.of v.li) (ax e2) ⟨two,fun t nt=>?_⟩);have st:=aa (o:= .tup [.ref q1, .ref q2]) nt;refine O3 t _ rfl (SqT.of a8) rfl _ _ rfl _ _ rfl rfl ?_;dsimp only;refine cH ?_;refine bJ rfl ?_;refine U5 _ rfl 2 rfl (U9 _ rfl q1 _ rfl (SqL.of (st _ _ h1)) (fun p np=>?_));rw[cut2];have sp:=aa (o:= .lst [.int (T.ln r n), .int (T.ln r (n+1))]) np;refine Y8 p rfl ⟨_,SqL.of a8⟩ (fun L nL=>?_);refine bh (xs:= [.int (T.ln r n), .int (T.ln r (n+1))]) (fun j acc H'=>Same _ H'/\H' L=some (.lst acc)/\acc=([V.int (T.ln r n* -T.ln r' q), .int (T.ln r (n+1)* -T.ln r' q)]).take j) ⟨aa nL,a8,rfl⟩ (fun j acc H' p=>SqL.of (p.1 _ _ a8)) ?_ ?_
 . rintro j x acc H' y ex ⟨l,u,rfl⟩;have aA:j < 2:=y;rcases(show j=0\/j=1 by omega)with rfl|rfl
   . cases ex;refine Y3 _ rfl (O2 _ rfl _ rfl q2 _ (q:Int) _ rfl rfl (SqL.of (l _ _ (sp _ _ (st _ _ h2)))) (ax (c5 (by omega))) (U6 _ rfl _ _ rfl rfl ⟨bl r n d (by omega),neg (bl r' q c (by omega))⟩ ?_))
     exact CompN.mk y (zk (List.length_take_le _ _) (by omega)) u ⟨az nL l,a8,rfl⟩
   . cases ex;refine Y3 _ rfl (O2 _ rfl _ rfl q2 _ (q:Int) _ rfl rfl (SqL.of (l _ _ (sp _ _ (st _ _ h2)))) (ax (c5 (by omega))) (U6 _ rfl _ _ rfl rfl ⟨bl r (n+1) d (by omega),neg (bl r' q c (by omega))⟩ ?_))
     exact CompN.mk y (zk (List.length_take_le _ _) (by omega)) u ⟨az nL l,a8,rfl⟩
 rintro acc H2 ⟨l,u,rfl⟩;refine ah ?_
 try dsimp only
 refine cH ?_;refine bJ rfl ?_;have sA:=(st.trans sp).trans l;refine U5 _ rfl 2 rfl (U9 _ rfl q2 _ rfl (SqL.of (sA _ _ h2)) (fun p' a0=>?_));rw[cut2];have e:=aa (o:= .lst [.int (T.ln r' n), .int (T.ln r' (n+1))]) a0;refine Y8 p' rfl ⟨_,SqL.of a8⟩ (fun L' g=>?_);refine bh (xs:= [.int (T.ln r' n), .int (T.ln r' (n+1))]) (fun j acc H'=>Same _ H'/\H' L'=some (.lst acc)/\acc=([V.int (T.ln r' n* -T.ln r q), .int (T.ln r' (n+1)* -T.ln r q)]).take j) ⟨aa g,a8,rfl⟩ (fun j acc H' p=>SqL.of (p.1 _ _ a8)) ?_ ?_
 . rintro j x acc H' y ex ⟨l,u,rfl⟩;have aA:j < 2:=y;rcases(show j=0\/j=1 by omega)with rfl|rfl
   . cases ex;refine Y3 _ rfl (O2 _ rfl _ rfl q1 _ (q:Int) _ rfl rfl (SqL.of (l _ _ (e _ _ (sA _ _ h1)))) (ax (c5 (by omega))) (U6 _ rfl _ _ rfl rfl ⟨bl r' n c (by omega),neg (bl r q d (by omega))⟩ ?_))
     exact CompN.mk y (zk (List.length_take_le _ _) (by omega)) u ⟨az g l,a8,rfl⟩
   . cases ex;refine Y3 _ rfl (O2 _ rfl _ rfl q1 _ (q:Int) _ rfl rfl (SqL.of (l _ _ (e _ _ (sA _ _ h1)))) (ax (c5 (by omega))) (U6 _ rfl _ _ rfl rfl ⟨bl r' (n+1) c (by omega),neg (bl r q d (by omega))⟩ ?_))
     exact CompN.mk y (zk (List.length_take_le _ _) (by omega)) u ⟨az g l,a8,rfl⟩
 rintro acc H3 ⟨s3,aT,rfl⟩;refine ah ?_
 try dsimp only
 have tb:=v.same ((sA.trans e).trans s3);have aB:=s3 _ _ (e _ _ u);refine Y3 _ rfl (O4 _ rfl D.a D.C D.dx _ _ rfl tb.ob hk.cls hk.nd (fs _ _) _ rfl D.pss _ (r:Int) _ rfl rfl (SqL.of tb.sd) (ax (fQ d)) ⟨two,fun t1 n1=>?_⟩);have s4:=aa (o:= .tup [.ref L, .int (T.sd r:Nat)]) n1;have au:=tb.same s4;refine Y3 _ rfl (O4 _ rfl D.a D.C D.dx _ _ rfl au.ob hk.cls hk.nd (fs _ _) _ rfl D.pss _ (r':Int) _ rfl rfl (SqL.of au.sd) (ax (fQ c)) ⟨two,fun t2 n2=>?_⟩);have s5:=aa (o:= .tup [.ref L', .int (T.sd r':Nat)]) n2;refine Y6 t1 t2 L L' (O7 _ _ _ _ _ _ rfl rfl (s5 _ _ a8) a8 ⟨fun z=>?_,s5 _ _ (s4 _ _ aB),s5 _ _ (s4 _ _ aT),k _ ((((sA.trans e).trans s3).trans s4).trans s5)⟩);rw[<-z,e _ _ u]at g;cases g
end K46
namespace Wg
theorem cmp3{x p q r i j k:Int}(hp:0 < p)(hq:0 < q)(hr:0 < r)(h1:x*q < y*p\/(x*q=y*p/\x'*q < y'*p)\/(x*q=y*p/\x'*q=y'*p/\i < j))(h2:y*r < z*q\/(y*r=z*q/\y'*r < z'*q)\/(y*r=z*q/\y'*r=z'*q/\j < k)):
 x*r < z*p\/(x*r=z*p/\x'*r < z'*p)\/(x*r=z*p/\x'*r=z'*p/\i < k):=by
 have d:x*q<=y*p:=by omega
 have g:y*r<=z*q:=by omega
 have a:=cX hp hq hr d g
 have b:∀ {x y z:Int},x*q=y*p->y*r=z*q->x*r=z*p:=fun{x y z} e1 c=>
  Int.le_antisymm (cX hp hq hr (Int.le_of_eq e1) (Int.le_of_eq c)) (cX hr hq hp (Int.le_of_eq c.symm) (Int.le_of_eq e1.symm))
 have f:∀ {x y z:Int},x*q < y*p->y*r<=z*q->x*r < z*p:=fun{x y z} h1 h2=>fL hp hq hr h1 h2
 have e:∀ {x y z:Int},x*q<=y*p->y*r < z*q->x*r < z*p:=fun{x y z} h1 h2=>by
  have:=fL (x:= -z) (y:= -y) (z:= -x) hr hq hp (by rw[Ao,Ao];omega) (by rw[Ao,Ao];omega)
  rw[Ao,Ao]at this;omega
 rcases h1 with h1|⟨e1,h1⟩|⟨e1,l,h1⟩
 . exact .inl (f h1 g)
 . rcases h2 with h2|⟨c,h2⟩|⟨c,h,h2⟩
   . exact .inl (e d h2)
   . exact .inr (.inl ⟨b e1 c,f h1 (AG h2)⟩)
   . exact .inr (.inl ⟨b e1 c,f h1 (Int.le_of_eq h)⟩)
 . rcases h2 with h2|⟨c,h2⟩|⟨c,h,h2⟩
   . exact .inl (e d h2)
   . exact .inr (.inl ⟨b e1 c,e (Int.le_of_eq l) h2⟩)
   . exact .inr (.inr ⟨b e1 c,b l h,by omega⟩)
end Wg
namespace K46
open PySem L2 Mth Tre Wd Su Tw Fm
variable{a q:Nat}{T:Wg.Tb}
theorem Tgt.trans{b c:Nat}(ha:T.ln a q < 0)(hb:T.ln b q < 0)(hc:T.ln c q < 0)(h1:Tgt n T a b q)(h2:Tgt n T b c q):Tgt n T a c q:=
 Wg.cmp3 (by omega) (by omega) (by omega) h1 h2
theorem Tgt.irr:¬Tgt n T a a q:=by
 unfold Tgt;omega
def qP:Sp:=fun vs H Q _=>∃(D:TA) (m mm n:Nat) (scs:List Int) (us:List Tr) (ws:List V) (pl:Addr) (ls:List V) (T:Wg.Tb) (q:Nat),vs= [.ref D.a, .int (q:Int)]/\Tk K D.C/\Tab D m mm n scs us ws pl ls T H/\q < n/\(∀i c,i < m->c < n+2->Big (T.ln i c))/\
 ((∀i,i < m->T.sd i < mm->¬T.ln i q < 0)->∀H',Same H H'->Q .non H')/\
 ∀r,r < m->T.sd r < mm->T.ln r q < 0->(∀i,i < m->T.sd i < mm->T.ln i q < 0->¬Tgt n T i r q)->∀H',Same H H'->Q (.int (r:Int)) H'
theorem scTig:FnScope ["table","column","found","at"] ["table","column"] (af sTig):= .of
theorem wD(F:Fun K "tightest" "tightest" sTig f fd)(B:Blt mg)(zS:Cl P w K mg base 2 "slack_lines" ["table"] (iH (K:=K)))(zT:Cl P w K mg base 1 "is_tighter" ["table","at","other","column"] (qQ (K:=K))):
 FnOk P w K mg base CX0 3 f fd ["table","column"] (qP (K:=K)):=by
 refine F.okb scTig fun vs H Q E h=>?_;refine hZq fun q_ e_=>?_;obtain⟨D,m,mm,n,scs,us,ws,pl,ls,T,q,rfl,hk,hT,hq,bl,kn,kr⟩:=h;subst e_;refine⟨rfl,fun aA A outer s hr=>?_⟩;have ai:Room 1 _:=hr.mono (by decide)
 have au:Room 2 _:=hr.mono (by decide)
 refine Y3 _ (ac (psA 2 scTig.nd db)
  (ac (bV PassesOwn.never rfl (cD (K:=K) rfl (ak zS au (a7 (pv 0) a9))) (pgA 3 scTig.nd)
   (ag (bS (PW.pt (fz (aw km (aq (r:=rIxL K) am (aq (r:=rIxL K) am (bT (K:=K) rfl (pv 0) rfl) (pv 3) fun _ _=>rfl) (pv 1) fun _ _=>rfl) ad (aE _))
    (eX (PW.pt (eW (aw hU (pv 2) db (aE _)) (dY (cC (ak zT ai (a7 (pv 0) (a7 (pv 3) (a7 (pv 2) (a7 (pv 1) a9)))))))))))) (ag (psA 2 scTig.nd (pv 3))) aS)))
  (ag (aD (pv 2))))) ?_
 have fl:∀b pl,(flds D pl b).lookup (Str.ofString "lines")=some (.ref pl):=fun b pl=>rfl;refine U7 _ rfl D m mm n scs us ws pl ls T ⟨rfl,hk,hT,fun l H1 nl s1 hl=>?_⟩;refine Y8 l rfl ⟨_,SqL.of hl⟩ ?_
 refine dD (xs:=nv (slk m mm T)) (fun j σ H'=>Same H1 H'/\∃v:Option V,(((∀i∈(slk m mm T).take j,¬T.ln i q < 0)/\σ= [some (.ref D.a),some (.int (q:Int)),some .non,v])\/
  ∃r,r < m/\T.sd r < mm/\T.ln r q < 0/\(∀i∈(slk m mm T).take j,T.ln i q < 0->¬Tgt n T i r q)/\σ= [some (.ref D.a),some (.int (q:Int)),some (.int (r:Int)),v]))
  ⟨Same.refl _,none, .inl ⟨fun i hi=>(by cases hi),rfl⟩⟩ (fun j σ H' _ p=>SqL.of (p.1 _ _ hl)) ?_ ?_
 . intro j x σ H2 ex z_;refine hZq fun q_ e_=>?_;obtain⟨e,v,hσ⟩:=z_;unfold nv at ex;rw[yW]at ex;obtain⟨r,er,rfl⟩:=za.mp ex;obtain⟨u,rs⟩:=slk_mem.mp (z5 er);have tb:=hT.same (s1.trans e);obtain⟨qr,eq,o,_,_⟩:=tb.ro.2 r u;subst e_;have tk:∀i,i∈(slk m mm T).take (j+1)↔i∈(slk m mm T).take j\/i=r:=fun i=>by rw[aH er,zw,zq]
   rcases hσ with⟨ha,rfl⟩|⟨k,d,g,c,ha,rfl⟩
   . refine ah ?_;refine O4 _ rfl D.a D.C D.dx _ _ rfl tb.ob hk.cls hk.nl (fl _ _) _ rfl pl _ (r:Int) _ rfl rfl (SqL.of tb.li) (ax eq) (O8 _ rfl qr _ (q:Int) _ rfl rfl (SqL.of o) (ax (c5 (by omega))) _ 0 rfl rfl _ rfl ?_)
     by_cases z:T.ln r q < 0
     . rw[decide_eq_true z];refine iteT ?_;refine O5 _ rfl rfl _ rfl ?_;rw[decide_eq_true rfl];refine iteT ?_;refine iteT ?_;refine Y3 _ rfl ?_;refine ah ?_;refine⟨e,_, .inr ⟨r,u,rs,z,fun i hi hn=>?_,rfl⟩⟩;rcases(tk i).mp hi with hi|rfl
       . exact absurd hn (ha i hi)
       . exact Tgt.irr
     . rw[decide_eq_false z];refine iteF ?_;refine iteF ?_;refine⟨e,_, .inl ⟨fun i hi=>?_,rfl⟩⟩;rcases(tk i).mp hi with hi|rfl
       . exact ha i hi
       . exact z
   . refine ah ?_;refine O4 _ rfl D.a D.C D.dx _ _ rfl tb.ob hk.cls hk.nl (fl _ _) _ rfl pl _ (r:Int) _ rfl rfl (SqL.of tb.li) (ax eq) (O8 _ rfl qr _ (q:Int) _ rfl rfl (SqL.of o) (ax (c5 (by omega))) _ 0 rfl rfl _ rfl ?_)
     by_cases z:T.ln r q < 0
     . rw[decide_eq_true z];refine iteT ?_;refine O5 _ rfl rfl _ rfl ?_;rw[decide_eq_false (by intro y;cases y)]
       refine iteF ?_;refine Y3 _ rfl (J5 _ rfl _ rfl _ rfl D m mm n scs us ws pl (O6 ls T r k q rfl hk tb u d ⟨hq,bl,fun H3 s3=>?_⟩));refine Y3 _ rfl ?_;by_cases y:Tgt n T r k q
       . rw[decide_eq_true y];refine iteT ?_;refine Y3 _ rfl ?_;refine ah ?_;refine⟨e.trans s3,_, .inr ⟨r,u,rs,z,fun i hi hn=>?_,rfl⟩⟩;rcases(tk i).mp hi with hi|rfl
         . exact fun t=>ha i hi hn (t.trans hn z c y)
         . exact Tgt.irr
       . rw[decide_eq_false y];refine iteF ?_;refine⟨e.trans s3,_, .inr ⟨k,d,g,c,fun i hi hn=>?_,rfl⟩⟩;rcases(tk i).mp hi with hi|rfl
         . exact ha i hi hn
         . exact y
     . rw[decide_eq_false z];refine iteF ?_;refine iteF ?_;refine⟨e,_, .inr ⟨k,d,g,c,fun i hi hn=>?_,rfl⟩⟩;rcases(tk i).mp hi with hi|rfl
       . exact ha i hi hn
       . exact absurd hn z
 . rintro σ H2 ⟨e,v,hσ⟩;have ao:(nv (slk m mm T)).length=(slk m mm T).length:=by unfold nv;rw[yR]
   rw[ao,zp]at hσ;rcases hσ with⟨ha,rfl⟩|⟨k,d,g,c,ha,rfl⟩
   . exact Y3 _ rfl (kn (fun i hi hs=>ha i (slk_mem.mpr ⟨hi,hs⟩)) H2 (s1.trans e))
   . exact Y3 _ rfl (kr k d g c (fun i hi hs hn=>ha i (slk_mem.mpr ⟨hi,hs⟩) hn) H2 (s1.trans e))
theorem lu{x:V}(h:xs.length=o+1)(e:xs[o]?=some x):atI xs (-1)=some x:=by
 unfold atI
 have:ixN xs.length (-1)=some o:=by
  unfold ixN;rw[if_neg (by decide),if_pos (by omega),h]
  congr 1;omega
 rw[this];exact e
def Rsg(mm o:Nat)(T:Wg.Tb)(c:Nat):Prop:=0 < T.ln o c\/(T.ln o c < 0/\¬T.hd c < mm)
instance {mm o:Nat} {T:Wg.Tb} {c:Nat}:Decidable (Rsg mm o T c):=by unfold Rsg;infer_instance
def qU(T0:Addr):Sp:=fun vs H Q _=>∃(D:TA) (o mm n:Nat) (scs:List Int) (us:List Tr) (ws:List V) (pl:Addr) (ls:List V) (T:Wg.Tb),vs= [.ref D.a]/\Tk K D.C/\Tab D (o+1) mm n scs us ws pl ls T H/\Lm T0 H/\
 ((∀c,c < n->¬Rsg mm o T c)->∀H',ButT T0 H H'->Lm T0 H'->Tab D (o+1) mm n scs us ws pl ls T H'->Q .non H')/\
 ∀c,c < n->Rsg mm o T c->(∀d,d < n->Rsg mm o T d->T.hd c<=T.hd d)->∀H',ButT T0 H H'->Lm T0 H'->Tab D (o+1) mm n scs us ws pl ls T H'->Q (.int (c:Int)) H'
theorem scRis:FnScope ["table","line","rising"] ["table"] (af sRis):= .of
theorem wK(F:Fun K "rising_column" "rising_column" sRis f fd)(B:Blt mg)(zI:Cl P w K mg base 1 "is_slack" ["table","number"] (ny (K:=K)))(zL:Cl P w K mg base 2 "least_by" ["numbers","places"] (n9 (K:=K) T0)):
 FnOk P w K mg base CX0 3 f fd ["table"] (qU (K:=K) T0):=by
 refine F.okb scRis fun vs H Q E h=>?_;refine hZq fun q_ e_=>?_;obtain⟨D,o,mm,n,scs,us,ws,pl,ls,T,rfl,hk,l,aT,kn,kc⟩:=h;subst e_;refine⟨rfl,fun a2 A outer s hr=>?_⟩;have a0:Room 1 _:=hr.mono (by decide)
 have aC:Room 2 _:=hr.mono (by decide)
 have aB:(["column","head","table","line"]:List Str).Nodup:=by decide +kernel
 refine Y3 _ (ac (psR 1 scRis.nd (aq am (aI (pv 0) rfl) (br aW ad) fun _ _=>rfl))
  (ac (cK (i:=2) (NC:= ["column","head","table","line"]) (mp:= [none,none,some 0,some 1]) (g:=gTup K 2 (b9 (aM 0) (b9 (aM 1) gNil))) rfl scRis.nd rfl rfl rfl (nO rfl B.en (a7 (aI (pv 0) rfl) a9)) (fun _ _ _ _ _=>ba (n:=2) rfl (aj (pgA 0 aB) (aj (pgA 1 aB) aQ)))
   (fun _ _ _ _ _=>cp (PW.pt (eW (aw dA (aq (r:=rIxL K) am (pv 3) (pv 0) fun _ _=>rfl) ad (aE _))
    (dY (PW.pt (fz (aw km (aq (r:=rIxL K) am (pv 3) (pv 0) fun _ _=>rfl) ad (aE _)) (eX (jo (cC (ak zI a0 (a7 (pv 2) (a7 (pv 1) a9))))))))))))
   (fun _ _ _ _ _=>pv 0))
  (ag (aD (ak zL aC (a7 (aI (pv 0) rfl) (a7 (pv 2) a9))))))) ?_
 have a1:(20000:Nat)<=sizeLine:=by decide +kernel
 have n64:=l.n64;have fl:∀b pl,(flds D pl b).lookup (Str.ofString "lines")=some (.ref pl):=fun b pl=>rfl;refine hZq fun q_ e_=>?_;obtain⟨q,eq,hq,_,_⟩:=l.ro.2 o (by omega)
 subst e_;refine O4 _ rfl D.a D.C D.dx _ _ rfl l.ob hk.cls hk.nl (fl _ _) 1 rfl pl _ (-1) _ rfl rfl (SqL.of l.li) (lu l.ro.1 eq) ?_;refine ah ?_;dsimp only;refine cH ?_;refine ii (K:=K) (a:=D.ph) (xs:=nv (Wg.ls n T.hd)) (fun Q q=>Y9 _ rfl D.a D.C D.dx _ _ rfl l.ob hk.cls hk.nh rfl q) (SqL.of l.hd) fun L nL=>?_;refine U8 (fun j acc H'=>Same H H'/\H' L=some (.lst acc)/\acc=nv ((List.range j).filter fun i=>decide (Rsg mm o T i))) ⟨aa nL,a8,rfl⟩ (fun j acc H' p=>SqL.of (p.1 _ _ l.hd)) ?_ ?_
 . rintro i Tt x acc H' hi _ ⟨m,hL,rfl⟩ ex nT;rw[bf]at hi;rw[fQ hi]at ex;cases ex;have sT:=aa (o:= .tup [.int i, .int (T.hd i:Nat)]) nT;refine O3 Tt _ rfl (SqT.of a8) rfl _ _ rfl _ _ rfl rfl ⟨ext2,?_⟩
   have al:(nv ((List.range i).filter fun i=>decide (Rsg mm o T i))).length<=i:=by
    unfold nv;rw[yR];exact z7 (zu _ _) (by rw[A3];exact yV _)
   have au:=sT _ _ (m _ _ hq)
   have ao:∀ {H5:Hp},Same (upd H' Tt (.tup [.int i, .int (T.hd i:Nat)])) H5->Rsg mm o T i->CompN (nv (Wg.ls n T.hd)).length i L (nv ((List.range i).filter fun i=>decide (Rsg mm o T i))) (fun j acc H'=>Same H H'/\H' L=some (.lst acc)/\acc=nv ((List.range j).filter fun i=>decide (Rsg mm o T i))) (.int i) H5:=fun{H5} s5 z=>by
    refine CompN.mk (by rw[bf];exact hi) (by omega) (s5 _ _ (sT _ _ hL)) ⟨az nL ((m.trans sT).trans s5),a8,?_⟩
    rw[zH,zx];simp[nv,z]
   have no:∀ {H5:Hp},Same (upd H' Tt (.tup [.int i, .int (T.hd i:Nat)])) H5->¬Rsg mm o T i->CompS (nv (Wg.ls n T.hd)).length i (nv ((List.range i).filter fun i=>decide (Rsg mm o T i))) (fun j acc H'=>Same H H'/\H' L=some (.lst acc)/\acc=nv ((List.range j).filter fun i=>decide (Rsg mm o T i))) H5:=fun{H5} s5 z=>by
    refine CompS.mk (by rw[bf];exact hi) ⟨(m.trans sT).trans s5,s5 _ _ (sT _ _ hL),?_⟩
    rw[zH,zx];simp[nv,z]
   refine Y3 _ rfl (O8 _ rfl q _ (i:Int) _ rfl rfl (SqL.of au) (ax (c5 (by omega))) _ 0 rfl rfl _ rfl ?_)
   by_cases z:0 < T.ln o i
   . rw[decide_eq_true z];refine iteT ?_;refine iteT ?_;exact Y3 _ rfl (ao (Same.refl _) (.inl z))
   . rw[decide_eq_false z];refine iteF ?_;refine Y3 _ rfl (O8 _ rfl q _ (i:Int) _ rfl rfl (SqL.of au) (ax (c5 (by omega))) _ 0 rfl rfl _ rfl ?_)
     by_cases y:T.ln o i < 0
     . rw[decide_eq_true y];refine iteT ?_;refine Y3 _ rfl (U7 _ rfl D (o+1) mm n scs us ws pl ls T (U8 _ rfl hk (l.same (m.trans sT)) (Y3 _ rfl ?_)));by_cases x:T.hd i < mm
       . rw[decide_eq_true (show((T.hd i:Nat):Int) < (mm:Int)by omega)]
         refine iteF ?_;refine no (Same.refl _) ?_;rintro(v|⟨_,v⟩)
         . exact z v
         . exact v x
       . rw[decide_eq_false (show¬((T.hd i:Nat):Int) < (mm:Int)by omega)]
         refine iteT ?_;exact Y3 _ rfl (ao (Same.refl _) (.inr ⟨y,x⟩))
     . rw[decide_eq_false y];refine iteF ?_;refine iteF ?_;refine no (Same.refl _) ?_;rintro(v|⟨v,_⟩)
       . exact z v
       . exact y v
 . rintro acc H2 ⟨m,hL,rfl⟩;rw[bf]at hL;refine ah ?_;have tb:=l.same m;obtain⟨rc,ai⟩:∃rc,rc=(List.range n).filter fun i=>decide (Rsg mm o T i):=⟨_,rfl⟩;rw[<-ai]at hL;have t:∀c,c∈rc↔c < n/\Rsg mm o T c:=fun c=>by rw[ai,zC,zZ,decide_eq_true_iff]
   have u:=aT.same m;obtain⟨a3,aA⟩:=u.tbl;refine O4 _ rfl D.a D.C D.dx _ _ rfl tb.ob hk.cls hk.nh rfl _ rfl D.ph L (Wg.ls n fun i=>((T.hd i:Nat):Int)) rc rfl (by rw[<-nV];exact SqL.of tb.hd) (SqL.of hL) (fun x mx=>by rw[Wg.ls_len];exact((t x).mp mx).1) ⟨u,fun e0 H4 bt k=>?_,fun c mc lst H4 bt k=>?_⟩
   . refine kn (fun c hc y=>?_) H4 (fun x o h e=>bt x o h (m _ _ e)) k (tb.butT aA bt);have:=(t c).mpr ⟨hc,y⟩;rw[e0]at this;cases this
   . obtain⟨cn,cr⟩:=(t c).mp mc;refine kc c cn cr (fun d hd y=>?_) H4 (fun x o h e=>bt x o h (m _ _ e)) k (tb.butT aA bt);have:=lst d ((t d).mpr ⟨hd,y⟩);rw[dN cn,dN hd]at this;omega
end K46
namespace PySem
open Sem (wp)
open AutoSeq1 (wpAny_loadPart')
theorem pF(l:Addr)(items:Array Value)(n:Nat)(dct:Option Addr)(sl:Array (Option Value))(k:Int)(t:Tok)(hk:Builtin.SmallTypes.fitsIndex k=true):
 Meets (Builtin.«enumerate.__new__» ⟨[.type "enumerate", .ref l],[(Str.ofString "start", .int k t)]⟩) (fun _ R s=>s.heap.get? l=some {cls:= .type "list",dict:=dct,data:= .seq items n,slots:=sl}/\
  R (.ok (.ret (.ref (s.heap.objs.size+1))))
   {s with heap:=(s.heap.push {cls:= .type "list_iterator",data:= .fields #[.ref l, .int 0 0]}).push {cls:= .type "enumerate",data:= .fields #[.none, .bool false, .ref s.heap.objs.size,rawInt k, .none, .none]}}):=
 .of_wp fun prog w A R s ⟨hl,h⟩=>by
  obtain⟨hp,g,d,tk,os⟩:=s;have hs:=sub_enumerate;have a:Heap.IsList (Shared.heap ⟨hp,g,d,tk,os⟩) l items:=J6 _ hl rfl n rfl;have hz:(hp.push {cls:= .type "list_iterator",data:= .fields #[.ref l, .int 0 0]}).objs.size=hp.objs.size+1:=Heap.size_push ..;rw[<-hz]at h
  wp_walk using wpAny_loadPart' hl
  refine wpAny_stack_any fun st=>wpAny_pure ?_;have b:(!Builtin.SmallTypes.fitsIndex k)=false:=by rw[hk];rfl
  split
  . rename_i c _ _ _ _ _;cases (c==Value.type "enumerate")
    . wp_walk using wpAny_loadPart' hl,wpAny_pyIter_list a
      exact Y3 _ rfl h
    . wp_walk using wpAny_loadPart' hl,wpAny_pyIter_list a
      exact Y3 _ rfl h
  . wp_walk using wpAny_loadPart' hl,wpAny_pyIter_list a
    exact Y3 _ rfl h
theorem tf(a b:Value):checkBuiltinCall "enumerate.__new__" ⟨[.type "enumerate",a],[(Str.ofString "start",b)]⟩=pure ():=by kernel_rfl
theorem tj(a b c:Value):argsOk "object.__init__" ⟨[a,b],[(Str.ofString "start",c)]⟩:=by
 unfold argsOk;rw[signature?_of (id:="object.__init__") (n:= ['_','_','t','i','n','i','_','_']) (o:= ['t','c','e','j','b','o']) (by kernel_rfl) F.owner_object]
 kernel_rfl
variable{a:Value}
theorem hZ{self b:Value}{k:Str}(hl:typeLookup (.type T) "__init__"=pure (some (.builtin "object.__init__")))(hm:Bind.madeBy (.type T)=pure (some newId))(hne:(some newId !=some "object.__new__")=true):
 Meets (Builtin.«object.__init__» ⟨[self,a],[(k,b)]⟩) (fun _ R s=>s.TypeIs self T/\R (.ok (.ret .none)) s):=by
 refine .of_wp fun prog w A R s ⟨c,hq⟩=>?_
 repeat (any_goals (first|assumption|wp_step))
 exact⟨_,rfl,hq⟩
theorem ml{b:Value}{S:Spec}(g:Meets (Builtin.«enumerate.__new__» ⟨[.type "enumerate",a],[(Str.ofString "start",b)]⟩) S)(h:S A.in1 (wants (fun obj s₁=>s₁.TypeIs obj "enumerate"/\Q obj s₁) E) s):wpAny (model prog w) A (call (.type "enumerate") [a] [(Str.ofString "start",b)]) Q E s:=by
 have d:=F.called_enumerate;have q:=d.init.lookup;have j:=d.made;have n:=d.sub;have h1:=d.notType;have h2:=d.canCreate;obtain⟨c,tl,m⟩:=d.mro;refine wpAny_call (codeAny_of_tree ?_);show wpAny _ _ (callAny (.type "enumerate") _) _ _ _;refine wpAny_pure ⟨Code.quiet_builtin _ (by decide +kernel),codeAny_builtin F.entry_type_call ?_⟩
 rw[Around.under_plain (by rfl) (by rfl)]
 repeat (any_goals (first|assumption|wp_step))
 have u:=codeAny_call_builtin d.plain F.entry_enumerate_new (wpAny_of_eq (tf a b) (g prog w A.in1 _ s h));refine codeAny_mono u fun r s₁ hr=>?_
 cases r with
 |error e=>exact hr
 |ok fl=>
  cases fl<;>first|exact hr.elim|skip
  rename_i obj;obtain⟨o,l⟩:s₁.TypeIs obj "enumerate"/\Q obj s₁:=hr;have p:=d.init.bind obj
  repeat (any_goals (first|assumption|wp_step))
  have g2:=hZ d.init.lookup d.made (by decide) (self:=obj) (a:=a) (k:=Str.ofString "start") (b:=b) prog w A.in1 (wants (fun r s₂=>r= .none/\Q obj s₂) E) s₁ ⟨o,rfl,l⟩
  refine codeAny_mono (codeAny_call_builtin d.init.plain F.entry_object_init (d.init.check _ _ _ _ _ _ _ _ o (tj obj a b) g2)) fun t s₂ f=>?_
  cases t with
  |error e=>exact f
  |ok i=>
   cases i<;>first|exact f.elim|skip
   obtain⟨rfl,hq⟩:=f
   repeat (any_goals (first|assumption|wp_step))
end PySem
namespace PySem
open PyProof.Rows in
theorem jR{M:Model}{pos:Pos}{rest:List Expr}{kws:List Keyword}(h:wpAny M A (spliced (backTo pos (starEach (e::rest) env))) (fun vs s₁=>wpAny M A (evalAll ((backToKw pos (keywordEach kws env)).map (·.2)))
  (fun kvs s₂=>wpAny M A (call (.type T) vs (((backToKw pos (keywordEach kws env)).filterMap (·.1)).zip kvs)) Q E s₂) E s₁) E s)(he:backTo pos (starEach (e::rest) env)=(false,eval e env)::backTo pos (starEach rest env):=by rfl)(hplain:(backTo pos (starEach (e::rest) env)).any (·.1)=false:=by rfl)(hall:(backToKw pos (keywordEach kws env)).all (·.1.isSome)=true:=by rfl)(hkw:(backToKw pos (keywordEach kws env)).any (·.1.isNone)=false:=by rfl):
 wpAny M A (callWith pos (.type T) [] (backTo pos (starEach (e::rest) env)) (backToKw pos (keywordEach kws env))) Q E s:=by
 rw[he]at h hplain ⊢;have h:=evalArgs_kwB (f:= .type T) (Q:=fun a s₁=>wpAny M A (call (.type T) ([]++a.pos) a.kw) Q E s₁) hall h;unfold callWith;refine wpAny_bind (wpAny_holding (wpAny_mono h (fun a s₁ b=>wpAny_bind (wpAny_standAt ?_)) fun _ _ x=>x));simp only[hplain,hkw,Bool.or_false];refine wpAny_bind (wpAny_pure ?_);exact wpAny_bind (wpAny_mono b (fun r s₂ hr=>wpAny_bind (wpAny_holding (wpAny_point (wpAny_pure hr)))) fun _ _ x=>x)
theorem mI{k:Int}{t:Tok}(hk:Builtin.SmallTypes.fitsIndex k=true)(hL:s.heap.IsList l items)(h:∀h',IsEnum h' (s.heap.objs.size+1) s.heap.objs.size k .none->h'.IsListIter s.heap.objs.size l 0->
  (∀b o,s.heap.get? b=some o->h'.get? b=some o)->Q (.ref (s.heap.objs.size+1)) {s with heap:=h'}):
 wpAny (model prog w) A (call (.type "enumerate") [.ref l] [(Str.ofString "start", .int k t)]) Q E s:=by
 obtain⟨⟨c,a,dt,sl⟩,hl,hc,n,hd⟩:=hL
 replace hc:c= .type "list":=hc
 replace hd:dt= .seq items n:=hd
 subst hc hd;refine ml (pF l items n a sl k t hk) ⟨hl,?_⟩;have hz:(s.heap.push {cls:= .type "list_iterator",data:= .fields #[.ref l, .int 0 0]}).objs.size=s.heap.objs.size+1:=Heap.size_push ..
 have he:IsEnum ((s.heap.push {cls:= .type "list_iterator",data:= .fields #[.ref l, .int 0 0]}).push
  {cls:= .type "enumerate",data:= .fields #[.none, .bool false, .ref s.heap.objs.size,rawInt k, .none, .none]}) (s.heap.objs.size+1) s.heap.objs.size k .none:=by
  have:=Heap.get?_push_size (s.heap.push {cls:= .type "list_iterator",data:= .fields #[.ref l, .int 0 0]})
   (o:= {cls:= .type "enumerate",data:= .fields #[.none, .bool false, .ref s.heap.objs.size,rawInt k, .none, .none]}) rfl
  rw[hz]at this;exact this
 exact⟨⟨_,he,rfl⟩,h _ he ⟨_,Heap.get?_push_of_some _ (Heap.get?_push_size _ rfl),rfl,rfl⟩ fun b o x=>Heap.get?_push_of_some _ (Heap.get?_push_of_some _ x)⟩
end PySem
namespace L2
open PySem PySem.Spec PyProof.Rows
def xA(K:PySem.W.Frag)(ta:TA)(tb:TE):TI:=fun σ H R=>ta σ H fun vs H1=>tb σ H1 fun z H2=>∃a xs k,vs= [.ref a]/\z= .int ((k:Nat):Int)/\k<=1000/\SqL K H2 a xs/\R (IteS K a k) H2
theorem rR{pt:Pos}{x y:Expr}{tb:TE}{kp pos:Pos}(hg:Gl X "enumerate")(hm:X.mg "enumerate"=none)(ha:PA X [x] ta)(hy:PE X y tb)(hs:starEach [x] X.env= [(false,eval x X.env)]:=by rfl):
 PI X (.Tuple es kk pt) (.Call (.Name "enumerate" p) [x] [⟨some (Str.ofString "start"),y,kp⟩] pos) (xA X.K ta tb):=by
 intro pins s σ H R I h;refine wpAny_Call_Name_kw (dB I hg hm PyProof.Rows.boot_enumerate (jR (thn (ha pos pins s σ H _ I h) fun us s1 ⟨vs,H1,u,r1,m⟩=>?_) (by rw[hs];rfl) (by rw[hs];rfl)))
 refine evalAll_cons (wpAny_bind (thn (hy pins s1 σ H1 _ u m) fun v b ⟨z,H2,f,r2,n⟩=>wpAny_bind (wpAny_standAt (wpAny_pure (evalAll_nil ?_)))));obtain⟨a,xs,k,e,rfl,i,k1,q⟩:=n;subst e
 cases r1 with
 |cons r t=>
  cases t;cases r;obtain⟨tk,rfl⟩:=r2;obtain⟨as,_,d,_⟩:=f.list k1;have d:=d.isList
  have g:a < b.heap.objs.size:=by
   obtain⟨o,e,_⟩:=d;exact Heap.lt_size e
  show wpAny _ _ (call (.type "enumerate") [.ref a] [(Str.ofString "start", .int ((k:Nat):Int) tk)]) _ _ _;refine mI (by unfold Builtin.SmallTypes.fitsIndex;simp;omega) d fun h' h1 h2 up=>?_
  refine wpAny_pyIter_enum (s:= {b with heap:=h'}) h1 ?_;have l:∀j,a≠b.heap.objs.size+j:=fun j=>zo (ze g (AC ..))
  have le:∀c∈ [b.heap.objs.size+1,b.heap.objs.size+0],b.heap.objs.size<=c:=fun c hc=>by
   simp only[yY,zf,or_false]at hc;rcases hc with rfl|rfl<;>exact AC ..
  refine O6 (b.heap.objs.size+1) ([b.heap.objs.size+1,b.heap.objs.size+0]) _ _ H2 rfl (f.kept (t':=b.toks) up) (gJ k a _ _ (by simp)) ⟨⟨_,h1⟩,h2,?_⟩ (fun c hc=>f.fpOk (le c hc) (f.hok.fresh (le c hc))) q
  simp only[yY,zf,or_false,not_or];exact⟨l 1,l 0⟩
theorem pC{k:Nat}{g:TG}{tb:TS}{D:Ends}(Pv:Nat->L2.St->Hp->Prop)(h0:Pv 0 σ H)(hl:∀i σ H,i<=xs.length->Pv i σ H->SqL K H a xs)(hs:∀i T x σ H,xs[i]?=some x->H T=none->Pv i σ H->g (.ref T) σ (upd H T (.tup [.int ((k+i:Nat):Int),x])) fun σ2 H2=>tb {D with nx:=Pv (i+1),ct:=Pv (i+1),bk:=D.nx} σ2 H2)(hd:∀σ H,Pv xs.length σ H->D.nx σ H):
 ∃W:Nat->Nat->L2.St->Hp->Prop,(∃m,W 0 m σ H)/\∀i m σ H,W i m σ H->
  (((IteS K a k).stop i H/\D.nx σ H)\/((IteS K a k).go i H/\∃N:L2.St->Hp->Prop,(∀σ' H',N σ' H'->∃m',m' < m/\W (i+1) m' σ' H')/\∀x H',(IteS K a k).yld i H x H'->g x σ H' fun σ2 H2=>tb {D with nx:=N,ct:=N,bk:=D.nx} σ2 H2)):=by
 refine Y3 (fun i m σ H=>m=xs.length - i/\i<=xs.length/\Pv i σ H) (Y8 xs.length (by simp) (zc _) h0) ?_
 rintro i m σ H ⟨rfl,hi,p⟩;have q:=hl i σ H hi p;by_cases b:i < xs.length
 . refine .inr ⟨(U3 xs (xs[i]) q (by simp[b])),Y3 (Pv (i+1)) (fun σ' H' d=>(U8 (xs.length - (i+1)) (by omega) rfl b d)) (fun x H' y=>?_)⟩
   obtain⟨T,c,rfl,f,rfl,y1,_⟩:=y;exact hs i T c σ H (y1 xs q) f p
 . have e:i=xs.length:=by omega
   subst e;exact .inl ⟨(Y3 xs q (yV _)),hd σ H p⟩
theorem lH{g:TG}{Q:VK}(h:ta σ H fun vs H1=>bU mp (kK K fun _ H2 R=>R vs H2) g tc te σ H1 Q):bU mp (kK K ta) g tc te σ H Q:=h
theorem qg{g:TG}(h:te σ H fun v H1=>g v σ H1 Z.nx):tAsg te g Z σ H:=h
end L2
namespace K46
open PySem L2 Mth Tre Wd Su Tw Fm
def ButP(D:TA)(pl:Addr)(H H':Hp):Prop:=∀x o,x≠pl->x≠D.pss->H x=some o->H' x=some o
theorem gm{f:Nat->α}:Wg.ls (n+1) f=Wg.ls n f++ [f n]:=by
 unfold Wg.ls;rw[zH,zd];rfl
theorem xB{t:Tr}{T:List Tr}(g:Gm T t)(h:TrAt H v t):∃a vs,v= .ref a/\H a=some (.tup vs):=by
 have gt:=g.gt
 cases gt with
 |nm x hx=>
  obtain⟨a,vs,e,ha,_⟩:=at_t h;exact⟨a,vs,e,ha⟩
 |ap f ts _ _ _ _=>
  obtain⟨a,vs,e,ha,_⟩:=at_t h;exact⟨a,vs,e,ha⟩
noncomputable def cfs(us:List Tr)(ps:List Pq)(j:Nat):Int:=cw (lcmF 1 (ps.map (·.2))) (us.getD j .non) ps
def qX:Sp:=fun vs H Q _=>∃(D:TA) (m n e Y:Nat) (scs:List Int) (us T':List Tr) (ws:List V) (pl:Addr) (ls:List V) (T:Wg.Tb) (v:V) (ps:List Pq),vs= [.ref D.a,v]/\Tk K D.C/\Tab D m m n scs us ws pl ls T H/\Wg.Pm m n T/\
 TrAt H v (sumT ps)/\Asc ps/\(∀p∈ps,Gm T' p.1/\Gq e p)/\e<=8000/\T'.length < 60/\(∀t∈us,Gm T' t)/\1<=m/\m < 64/\n < 60/\ps.length < 60/\(∀p∈ps,p.2.2.natAbs<=Y)/\0 < Y/\Y^(ps.length+1) < 2^8000/\
 (∀j,j < n->Big (cfs us ps j))/\(∀k c,c < n+2->Big (lno m n T k c))/\
 ∀ls' H',ButP D pl H H'->Tab D (m+1) m n scs us ws pl ls' (ext m n T (cfs us ps)) H'->Q (.int (lcmF 1 (ps.map (·.2)))) H'
theorem scPut:FnScope ["table","pairs","scale","line","number","count"] ["table","pairs"] (af sPut):= .of
theorem wN(F:Fun K "put_sum" "put_sum" sPut f fd)(B:Blt mg)(zSc:Cl P w K mg base 2 "scale_of" ["shares"] mX)(zSh:Cl P w K mg base 1 "shares_in" ["pairs"] mW)(zCt:Cl P w K mg base 42 "counts_of" ["pairs","terms","scale"] nA)(zL:Cl P w K mg base 1 "line_of" ["table","number"] (mZ (K:=K))):
 FnOk P w K mg base CX0 43 f fd ["table","pairs"] (qX (K:=K)):=by
 refine F.okb scPut fun vs H Q E h=>?_;refine hZq fun q_ e_=>?_;obtain⟨D,m,n,e,Y,scs,us,T',ws,pl,ls,T,v,ps,rfl,hk,d,hP,hv,bi,aT,he,c3,a6,m1,m64,dl,c4,hY,Y0,bI,c2,cr,k⟩:=h;subst e_;refine⟨rfl,fun dj A outer s hr=>?_⟩;have bv:Room 1 _:=hr.mono (by decide)
 have bP:Room 2 _:=hr.mono (by decide)
 have bF:(["one","other","count"]:List Str).Nodup:=by decide +kernel
 refine Y3 _ (ac (psA 2 scPut.nd (ak zSc bP (a7 (ak zSh bv (a7 (pv 1) a9)) a9)))
  (ac (psA 3 scPut.nd (av we (bW (a7 ad a9)) (av c9 (aG ar rfl B.le PySem.boot_len (a7 (aI (pv 0) rfl) a9)) ad)))
  (ac (bV PassesOwn.never rfl (rR rfl B.en (a7 (ak zCt hr (a7 (pv 1) (a7 (aI (pv 0) rfl) (a7 (pv 2) a9)))) a9) (aG ar rfl B.le PySem.boot_len (a7 (aI (pv 0) rfl) a9)))
   (ba (n:=2) rfl (aj (pgA 4 scPut.nd) (aj (dL (i:=5) scPut.nd rfl (Or.inr rfl)) aQ)))
   (ag (bS (aw iM (pv 5) ad (aE _))
    (ag (cK (i:=3) (NC:= ["one","other","count"]) (mp:= [none,none,some 5]) (g:=gTup K 2 (b9 (aM 0) (b9 (aM 1) gNil))) rfl scPut.nd rfl rfl rfl (eZ rfl B.zi (a7 (pv 3) (a7 (ak zL bv (a7 (pv 0) (a7 (pv 4) a9))) a9)))
     (fun _ _ _ _ _=>ba (n:=2) rfl (aj (pgA 0 bF) (aj (pgA 1 bF) aQ))) (fun _ _ _ _ _=>aV)
     (fun _ _ _ _ _=>av c9 (pv 0) (av aR (pv 2) (pv 1))))) aS)))
  (ac (bA (cU PySem.F.plainAttrs_list PySem.F.slot_list_append PySem.F.type_list_append bu (aI (pv 0) rfl) (a7 (pv 3) a9)))
  (ac (bA (cU PySem.F.plainAttrs_list PySem.F.slot_list_append PySem.F.type_list_append bu (aI (pv 0) rfl) (a7 (av c9 (aG ar rfl B.le PySem.boot_len (a7 (aI (pv 0) rfl) a9)) (aG ar rfl B.le PySem.boot_len (a7 (aI (pv 0) rfl) a9))) a9)))
  (ag (aD (pv 2)))))))) ?_
 have c8:(20000:Nat)<=sizeLine:=by decide +kernel
 have fl:∀b pl,(flds D pl b).lookup (Str.ofString "lines")=some (.ref pl):=fun b pl=>rfl;obtain⟨sc,au⟩:∃sc,sc=lcmF 1 (ps.map (·.2)):=⟨_,rfl⟩
 have lc:=dO (M:=Y) (fs:=ps.map (·.2)) (s:=1) (by decide) fun f mf=>by
  obtain⟨p,mp,rfl⟩:=zr.mp mf;exact⟨(aT p mp).2.gf.pos,hY p mp⟩
 have bY:Big sc:=by
  have:=lc.2.2.2;rw[<-au,yR]at this;have h1:(1:Int).natAbs=1:=rfl;rw[h1,Nat.one_mul]at this;exact zk this (zk (zE Y0 (by omega)) bI)
 refine U6 _ rfl v ps rfl hv (by omega) (fun l1 cI H1 s1 n1 cn cd=>?_)
 refine Y6 l1 cI (ps.map (·.2)) Y ⟨rfl,cn,by rw[Aj];exact cd,fun f mf=>by
  obtain⟨p,mp,rfl⟩:=zr.mp mf
  exact⟨(aT p mp).2.gf.pos,hY p mp⟩,Y0,by rw[yR];exact bI,?_⟩
 rw[<-au];have tb1:=d.same s1;refine ah ?_;refine⟨(by show 1<=sizeLine;omega),fun l2 n2=>?_⟩
 have s2:=aa (o:= .lst [.int 0]) n2;have bg:=tb1.same s2;refine Y9 _ rfl D.a D.C D.dx _ _ rfl bg.ob hk.cls hk.nh rfl (Y5 D.ph _ rfl (.inl (SqL.of bg.hd)) (Y5 _ _ rfl rfl (U4 l2 ((n+2:Nat):Int) _ rfl ?_ a8 (by omega) ⟨by omega,?_,fun l3 n3=>?_⟩)))
 . rw[bf];rfl
 . show 1*((n+2:Nat):Int).toNat<=sizeLine;omega
 have e0:(List.replicate ((n+2:Nat):Int).toNat [V.int 0]).flatten=(Wg.ls (n+2) fun c=>Wg.sumN 0 fun i=>cfs us ps i*lno m n T (m+i) c).map V.int:=by
  rw[Int.toNat_natCast]
  have:∀k,(List.replicate k [V.int 0]).flatten=(Wg.ls k fun c=>Wg.sumN 0 fun i=>cfs us ps i*lno m n T (m+i) c).map V.int:=fun k=>by
   induction k with
   |zero=>rfl
   |succ k ih=>
    rw[gm,zd,<-ih,List.replicate_succ',List.flatten_append];rfl
  exact this _
 rw[e0];have s3:=aa (o:= .lst ((Wg.ls (n+2) fun c=>Wg.sumN 0 fun i=>cfs us ps i*lno m n T (m+i) c).map V.int)) n3;have sA:=(s1.trans s2).trans s3;have aB:=d.same sA;refine ah ?_;refine Y3 _ rfl (Y9 _ rfl D.a D.C D.dx _ _ rfl aB.ob hk.cls hk.nt rfl (Y2 _ rfl v ps D.pt ws (Y6 us T' sc e ⟨rfl,hv.mono (Kd.of_same sA),bi,aT,he,bY,by omega,aB.tm,aB.tt,a6,by rw[d.ul];omega,fun lc H4 n4 s4 a2=>?_⟩)))
 have aA:=aB.same s4;have sB:=sA.trans s4;refine Y9 _ rfl D.a D.C D.dx _ _ rfl aA.ob hk.cls hk.ns rfl (Y5 D.psc _ rfl (.inl (SqL.of aA.sc)) (U4 lc _ m rfl (by rw[yR,d.sl]) (by omega) (SqL.of a2) ?_))
 have cl:((us.map fun t=>cw sc t ps).map V.int).length=n:=by rw[yR,yR,d.ul]
 have cm:∀j x,((us.map fun t=>cw sc t ps).map V.int)[j]?=some x->j < n/\x= .int (cfs us ps j):=fun j x ex=>by
  rw[yW,yW]at ex;refine hZq fun q_ e_=>?_;obtain⟨y,ey,rfl⟩:=za.mp ex;obtain⟨t,et,rfl⟩:=za.mp ey;subst e_;have jl:=(yZ.mp et).1;refine⟨by rw[<-d.ul];exact jl,?_⟩
  unfold cfs;rw[z8,et,<-au];rfl
 refine pC (k:=m) (xs:=(us.map fun t=>cw sc t ps).map V.int) (fun j σ H'=>Same H4 H'/\∃L v4 v5,H L=none/\H' L=some (.lst ((Wg.ls (n+2) fun c=>Wg.sumN j fun i=>cfs us ps i*lno m n T (m+i) c).map V.int))/\σ= [some (.ref D.a),some v,some (.int sc),some (.ref L),v4,v5])
  ⟨Same.refl _,J2 l3 none none ((s1.trans s2).free n3) (s4 _ _ a8) rfl⟩ (fun j σ H' _ p=>SqL.of (p.1 _ _ a2)) ?_ ?_
 . intro j Tt x σ H5 ex nT z_;refine hZq fun q_ e_=>?_;obtain⟨s5,L,v4,v5,nL,hL,rfl⟩:=z_;obtain⟨jn,rfl⟩:=cm j x ex;subst e_;have sT:=aa (o:= .tup [.int ((m+j:Nat):Int), .int (cfs us ps j)]) nT;refine O3 Tt _ rfl (SqT.of a8) rfl _ _ rfl _ _ rfl rfl ?_;refine O5 _ rfl rfl _ rfl ?_;by_cases z:cfs us ps j=0
   . rw[decide_eq_true (show V.int (cfs us ps j)=V.int 0 by rw[z])]
     refine iteF ?_;refine⟨s5.trans sT,J2 L _ _ nL ?_ rfl⟩;rw[sT _ _ hL];congr 3;refine Wg.ls_congr fun c hc=>?_;rw[Wg.sumN,z,zQ,Ap]
   . rw[decide_eq_false (show¬V.int (cfs us ps j)=V.int 0 from fun y=>z (V.int.inj y))];refine iteT ?_;have l:=aA.same (s5.trans sT);refine qg ?_;refine lH (K:=K) ?_;refine J5 _ rfl _ rfl _ rfl D m m n scs us ws pl (U4 ls T (m+j) rfl hk l hP (fun ql H6 s6 bB=>?_));have a4:=s6 _ _ (sT _ _ hL);unfold tNil;dsimp only;refine eK (xs:=(Wg.ls (n+2) fun c=>Wg.sumN j fun i=>cfs us ps i*lno m n T (m+i) c).map V.int) (ys:=(Wg.ls (n+2) (lno m n T (m+j))).map V.int) (a:=L) (b:=ql) (by rw[yR,yR,Wg.ls_len,Wg.ls_len];omega) (fun Q q=>q) (SqL.of a4) (SqL.of bB) fun L' aC=>?_
     refine U8 (fun c acc H7=>Same H6 H7/\H7 L'=some (.lst acc)/\acc=(Wg.ls c fun c=>Wg.sumN (j+1) fun i=>cfs us ps i*lno m n T (m+i) c).map V.int) ⟨aa aC,a8,rfl⟩ (fun c acc H7 pp=>⟨SqL.of (pp.1 _ _ a4),SqL.of (pp.1 _ _ bB)⟩) ?_ ?_
     . rintro c Tz x y acc H7 hc _ ⟨s7,ao,rfl⟩ ex' a5 b7;rw[yR,Wg.ls_len]at hc;rw[c5 hc]at ex' a5;cases ex';cases a5;have sz:=aa (o:= .tup [.int (Wg.sumN j fun i=>cfs us ps i*lno m n T (m+i) c), .int (lno m n T (m+j) c)]) b7;refine O3 Tz _ rfl (SqT.of a8) rfl _ _ rfl _ _ rfl rfl ⟨ext2,?_⟩;refine dM ?_;refine U5 _ rfl _ rfl (U6 _ rfl _ _ rfl rfl ⟨c2 j jn,cr _ c hc⟩ (Y5 _ _ rfl rfl ?_));refine CompN.mk (by rw[yR,Wg.ls_len];exact hc) (by rw[yR,Wg.ls_len];omega) (sz _ _ ao) ⟨az aC (s7.trans sz),a8,?_⟩
       rw[gm,zd];rfl
     . rintro acc H7 ⟨s7,ao,rfl⟩;rw[yR,Wg.ls_len]at ao;refine ah ?_;exact⟨((s5.trans sT).trans s6).trans s7,J2 L' _ _ (((sB.trans (s5.trans sT)).trans s6).free aC) ao rfl⟩
 . intro σ H5 z_;refine hZq fun q_ e_=>?_;obtain⟨s5,L,v4,v5,nL,hL,rfl⟩:=z_;rw[cl]at hL;have l:=aA.same s5;have sC:=sB.trans s5;have a0:∀ {x:Addr} {o:HO},H x=some o->L≠x:=fun{x o} ex z=>by rw[z,ex]at nL;cases nL
   have b6:L≠pl:=a0 d.li;have bw:L≠D.pss:=a0 d.sd;obtain⟨q0,r,b8,_,_⟩:=d.ro.2 0 (by omega)
   subst e_
   have bj:D.psc≠pl:=fun z=>by
    have e1:=d.sc;rw[z,d.li]at e1;rw[HO.lst.inj (z9 e1),yW]at r;obtain⟨i,_,ei⟩:=za.mp r;cases ei
   have bC:D.pt≠pl:=fun z=>by
    have e1:=d.tm;rw[z,d.li]at e1;rw[HO.lst.inj (z9 e1)]at r;refine hZq fun q_ e_=>?_;obtain⟨t,et,ht⟩:=d.tt.get' r;obtain⟨a,vs,ea,ha⟩:=xB (a6 t (z5 et)) ht;subst e_;cases ea;rw[b8]at ha;cases ha
   have nq:∀ {q:Addr} {xs:List Int},H q=some (.lst (xs.map V.int))->q≠pl:=fun{q xs} e1 z=>by
    rw[z,d.li]at e1;rw[HO.lst.inj (z9 e1),yW]at r;obtain⟨i,_,ei⟩:=za.mp r;cases ei
   have ai:∀ {x:Addr} {xs:List V},H x=some (.lst xs)->D.a≠x:=fun{x xs} e1 z=>by rw[<-z,d.ob]at e1;cases e1
   have tk:∀ {x:Addr} {xs:List V},H x=some (.tup xs)->x≠pl/\x≠D.pss:=fun{x xs} e1=>⟨fun z=>(by rw[z,d.li]at e1;cases e1),fun z=>(by rw[z,d.sd]at e1;cases e1)⟩
   have o6:∀ {x:Addr} {o:HO},x≠pl->H5 x=some o->upd H5 pl (.lst (ls++ [.ref L])) x=some o:=fun{x o} n ex=>by rw[ae n];exact ex
   have a1:=o6 (ai d.li) l.ob;have bb:=o6 d.n4 l.sd;refine Y9 _ rfl D.a D.C D.dx _ _ rfl l.ob hk.cls hk.nl (fl _ _) ⟨.inl ⟨rfl,_,SqL.of l.li⟩,J4 _ rfl pl ls (.ref L) rfl ⟨rfl,l.li,by have:=d.ro.1;omega,?_⟩⟩
   refine Y9 _ rfl D.a D.C D.dx _ _ rfl a1 hk.cls hk.nd rfl ⟨.inl ⟨rfl,_,SqL.of bb⟩,Y9 _ rfl D.a D.C D.dx _ _ rfl a1 hk.cls hk.ns rfl (Y5 D.psc _ rfl (.inl (SqL.of (o6 bj l.sc))) (Y9 _ rfl D.a D.C D.dx _ _ rfl a1 hk.cls hk.nt rfl (Y5 D.pt _ rfl (.inl (SqL.of (o6 bC l.tm))) (Y5 _ _ rfl rfl (U4 D.pss _ _ rfl rfl bb (by rw[bf];omega) ?_)))))⟩
   refine Y3 _ rfl ?_;rw[yR,d.sl,d.tt.len,d.ul];dsimp only;rw[show((m:Nat):Int)+((n:Nat):Int)=((m+n:Nat):Int)from by omega,au]
   obtain⟨H7,e7⟩:∃H7,H7=upd (upd H5 pl (.lst (ls++ [.ref L]))) D.pss (.lst (nv (Wg.ls m T.sd)++ [.int ((m+n:Nat):Int)])):=⟨_,rfl⟩;rw[<-e7];have u:∀ {x:Addr} {o:HO},x≠pl->x≠D.pss->H5 x=some o->H7 x=some o:=fun{x o} n1 n2 ex=>by rw[e7,ae n2];exact o6 n1 ex
   have l7:H7 pl=some (.lst (ls++ [.ref L])):=by rw[e7,ae (Ne.symm d.n4)];exact a8
   have d7:H7 D.pss=some (.lst (nv (Wg.ls m T.sd)++ [.int ((m+n:Nat):Int)])):=by rw[e7];exact a8
   have ll:=d.ro.1;refine k (ls++ [.ref L]) H7 (fun x o n1 n2 ex=>u n1 n2 (sC _ _ ex)) ⟨u (ai d.li) (ai d.sd) l.ob,u bC (Ne.symm d.n1) l.tm,?_,d.ul,u bj (Ne.symm d.n2) l.sc,d.sl,l7,⟨by rw[zj,ll];rfl,fun i hi=>?_⟩,?_,u d.n7 (Ne.symm d.n3) l.hd,d.n1,d.n2,d.n3,d.n4,d.n5,d.n6,d.n7,by omega,d.n64⟩
   . refine d.tt.mono ⟨fun x xs e1=>u (tk e1).1 (tk e1).2 (sC _ _ e1),fun x xs e1=>?_⟩;by_cases z1:x=pl
     . exact⟨_,by rw[z1];exact l7⟩
     . by_cases z2:x=D.pss
       . exact⟨_,by rw[z2];exact d7⟩
       . exact⟨xs,u z1 z2 (sC _ _ e1)⟩
   . by_cases hm:i < m
     . refine hZq fun q_ e_=>?_;obtain⟨q,eq,hq,a3,bR⟩:=d.ro.2 i hm;subst e_;refine U8 q (by rw[As (by omega)];exact eq) ?_ a3 bR
       have:Wg.ls (n+2) ((ext m n T (cfs us ps)).ln i)=Wg.ls (n+2) (T.ln i):=Wg.ls_congr fun c _=>if_pos hm;dsimp only;rw[this];exact u (nq hq) a3 (sC _ _ hq)
     . have ei:i=m:=by omega
       subst ei;refine U8 L (by rw[Aq (by omega),ll,Nat.sub_self];rfl) ?_ bw (a0 d.hd)
       have:Wg.ls (n+2) ((ext i n T (cfs us ps)).ln i)=Wg.ls (n+2) fun c=>Wg.sumN n fun j=>cfs us ps j*lno i n T (i+j) c:=Wg.ls_congr fun c _=>if_neg (zN _);dsimp only;rw[this];exact u b6 bw hL
   . rw[d7]
     have e8:nv (Wg.ls (m+1) (ext m n T (cfs us ps)).sd)=nv (Wg.ls m T.sd)++ [.int ((m+n:Nat):Int)]:=by
      have:Wg.ls m (ext m n T (cfs us ps)).sd=Wg.ls m T.sd:=Wg.ls_congr fun c hc=>if_pos hc;have e9:(ext m n T (cfs us ps)).sd m=m+n:=if_neg (zN _);unfold nv;rw[gm,zd,this,e9];rfl
     rw[e8]
end K46
namespace Wg
variable{s:Nat}
theorem Rr.snoc{z:Nat}{V R:Nat->Vec}{T:Nat->Tb}{r q:Nat->Nat}(H:Rr m n s o z V R M T r q J)(S:Sr m n s o M (T J) r' q'):
 ∃T2 r2 q2,Rr m n s o z V R M T2 r2 q2 (J+1)/\T2 (J+1)=piv (T J) r' q':=by
 refine⟨fun j=>if j<=J then T j else piv (T J) r' q',U3 (fun j=>if j < J then r j else r') (fun j=>if j < J then q j else q') ⟨?_,?_,H.ho,?_,H.zs,?_,?_⟩ ?_⟩
 . show Inv m n V R (if 0<=J then T 0 else _);rw[if_pos (by omega)]
   exact H.inv
 . show Pm m n (if 0<=J then T 0 else _);rw[if_pos (by omega)]
   exact H.pm
 . show(if 0<=J then T 0 else _).sd o=z;rw[if_pos (by omega)]
   exact H.hz
 . intro j a;show Sr m n s o M (if j<=J then T j else _) (if j < J then r j else r') (if j < J then q j else q');rw[if_pos (by omega)]
   by_cases h:j < J
   . rw[if_pos h,if_pos h];exact H.st j h
   . have e:j=J:=by omega
     subst e;rw[if_neg h,if_neg h];exact S
 . intro j a;show(if j+1<=J then T (j+1)else _)=piv (if j<=J then T j else _) (if j < J then r j else r') (if j < J then q j else q');rw[if_pos (by omega:j<=J)]
   by_cases h:j < J
   . rw[if_pos h,if_pos h,if_pos (by omega)]
     exact H.nx j h
   . have e:j=J:=by omega
     subst e;rw[if_neg h,if_neg h,if_neg (by omega)]
 . show(if J+1<=J then _ else _)=_;rw[if_neg (by omega)]
theorem stl_piv{r q:Nat}{T:Tb}(h:∀c,c < n->s<=T.hd c->∀i,i < m->T.sd i < s->T.ln i c=0)(hr:r < m)(hs:T.sd r < s):
 ∀c,c < n->s<=(piv T r q).hd c->∀i,i < m->(piv T r q).sd i < s->(piv T r q).ln i c=0:=by
 intro c hn hh i hi d;have a:s<=if c=q then T.sd r else T.hd c:=hh;have b:(if i=r then T.hd q else T.sd i) < s:=d;have e:c≠q:=fun e=>by rw[if_pos e]at a;omega
 rw[if_neg e]at a;show(if i=r then(if c=q then _ else _)else if c=q then _ else T.num r q i c / T.bot)=0;rw[if_neg e,if_neg e];have z:=h c hn a r hr hs;by_cases ei:i=r
 . rw[if_pos ei,z,zm]
 . rw[if_neg ei]at b ⊢;have f:=h c hn a i hi b;unfold Tb.num;rw[z,f];simp
theorem lex_le{u v p:Int}(hM:(2*C*C:Nat) < M)(hv:v.natAbs<=C)(hp:p.natAbs<=C)(hv':v'.natAbs<=C)(hp':p'.natAbs<=C)(h:u*p < u'*p'\/(u*p=u'*p'/\v*p < v'*p')):(M*u+v)*p < (M*u'+v')*p':=by
 have d:(v*p).natAbs<=C*C:=by rw[zA];exact AB hv hp
 have c:(v'*p').natAbs<=C*C:=by rw[zA];exact AB hv' hp'
 have e1:(M*u+v)*p=M*(u*p)+v*p:=by grind
 have a:(M*u'+v')*p'=M*(u'*p')+v'*p':=by grind
 rw[e1,a];have b:2*C*C=C*C+C*C:=by rw[Nat.mul_assoc];omega
 rw[b]at hM;generalize C*C=S at*;rcases h with h|⟨h1,h2⟩
 . have:M*(u*p+1)<=M*(u'*p'):=AA (by omega) (by omega)
   rw[Int.mul_add,Int.mul_one]at this;omega
 . rw[h1];omega
end Wg
namespace K46
open PySem L2 Mth Tre Wd Su Tw Fm
structure Rb (m n:Nat) (L:Nat->Nat->Int) (cf:Nat->Int) (C:Nat):Prop where
 ex:∃M,Wg.Sz m n L M/\(∀j,j < n->(cf j).natAbs<=M)/\Wg.fac (m+1)*M^(m+1)<=C
 cb:∀j,j < n->(cf j).natAbs<=C
 le:1<=C
 big:C < lim
structure Okr (m n:Nat) (L:Nat->Nat->Int) (cf:Nat->Int) (T:Wg.Tb):Prop where
 inv:Wg.Inv (m+1) n (Wg.V1 m n L cf) (Wg.R1 m L) T
 pm:Wg.Pm (m+1) n T
 so:T.sd m=m+n
 st:∀c,c < n->m<=T.hd c->∀i,i < m+1->T.sd i < m->T.ln i c=0
 nn:∀i,i < m+1->T.sd i < m->¬Ngv n T i
variable{s:Int}{r:List Pq}{p:Pq}{T:Wg.Tb}
theorem Rb.bnd(h:Rb m n L cf C)(I:Wg.Inv (m+1) n (Wg.V1 m n L cf) (Wg.R1 m L) T)(P:Wg.Pm (m+1) n T):T.bot.natAbs<=C/\∀i c,i < m+1->c < n+2->(T.ln i c).natAbs<=C:=by
 obtain⟨M,h1,h2,h3⟩:=h.ex;obtain⟨a,b⟩:=sz1 h1 h2 I P;exact⟨z7 a h3,fun i c hi hc=>z7 (b i c hi hc) h3⟩
theorem uX(O:Okt m n L T)(h:∀i,i < m->T.sd i < m->¬Ngv n T i):Okr m n L cf (ext m n T cf):=by
 have e1:∀i,i < m->(ext m n T cf).sd i=T.sd i:=fun i hi=>if_pos hi;have d:(ext m n T cf).sd m=m+n:=if_neg (zN _);have b:∀i c,i < m->(ext m n T cf).ln i c=T.ln i c:=fun i c hi=>if_pos hi
 have a:∀i,i < m+1->(ext m n T cf).sd i < m->i < m:=fun i hi hs=>by
  refine Nat.lt_of_le_of_ne (by omega) fun e=>?_
  rw[e,d]at hs;omega
 refine⟨om O.inv O.pm,t7 O.pm,d,fun c hc hh i hi hs=>?_,fun i hi hs=>?_⟩
 . have a:=a i hi hs;rw[b i c a];rw[e1 i a]at hs;exact O.st c hc hc hh i a hs
 . have a:=a i hi hs;rw[e1 i a]at hs;unfold Ngv;rw[b i n a,b i (n+1) a];exact h i a hs
theorem nW(hM:(C:Int) < MM)(h:(T.ln i (n+1)).natAbs<=C):Ngv n T i↔Wg.val n MM T i < 0:=by
 unfold Ngv Wg.val;exact Wg.lex_neg (by omega) (by omega)
def qW(T0:Addr):Sp:=fun vs H Q _=>∃(D:TA) (m n C:Nat) (scs:List Int) (us:List Tr) (ws:List V) (pl:Addr) (ls:List V) (L:Nat->Nat->Int) (cf:Nat->Int) (T:Wg.Tb),vs= [.ref D.a, .bl false]/\Tk K D.C/\Tab D (m+1) m n scs us ws pl ls T H/\Rb m n L cf C/\Okr m n L cf T/\Lm T0 H/\
 (∀pl' ls' T' H',ButY T0 D H H'->Lm T0 H'->Tab D (m+1) m n scs us ws pl' ls' T' H'->Okr m n L cf T'->(∀c,c < n->¬Rsg m m T' c)->Q .non H')/\
 ∀pl' ls' T' c H',ButY T0 D H H'->Lm T0 H'->Tab D (m+1) m n scs us ws pl' ls' T' H'->Okr m n L cf T'->c < n->Rsg m m T' c->(∀i,i < m+1->T'.sd i < m->¬T'.ln i c < 0)->Q (.int (c:Int)) H'
theorem scRai:FnScope ["table","enough","column","at"] ["table","enough"] (af sRai):= .of
theorem wM(F:Fun K "raised" "raised" sRai f fd)(B:Blt mg)(zR:Cl P w K mg base 3 "rising_column" ["table"] (qU (K:=K) T0))(zT:Cl P w K mg base 3 "tightest" ["table","column"] (qP (K:=K)))(zU:Cl P w K mg base 2 "turn" ["table","at","column"] (k9 (K:=K))):
 FnOk P w K mg base CX0 4 f fd ["table","enough"] (qW (K:=K) T0):=by
 refine F.okb scRai fun vs H Q E h=>?_;refine hZq fun q_ e_=>?_;obtain⟨D,m,n,C,scs,us,ws,pl,ls,L,cf,T,rfl,hk,hT,hW,hO,a5,kn,kc⟩:=h;subst e_;refine⟨rfl,fun bB A outer s hr=>?_⟩;have a0:Room 2 _:=hr.mono (by decide)
 refine Y3 _ (ac (dy PassesOwn.never (PW.pt (eW (jo (cC (pv 1))) (dY (aw yv (aq (r:=rIxL K) am (aq (r:=rIxL K) am (bT (K:=K) rfl (pv 0) rfl) (br aW ad) fun _ _=>rfl) (br aW ad) fun _ _=>rfl) ad (aE _)))))
  (ac (psA 2 scRai.nd (ak zR hr (a7 (pv 0) a9)))
  (ac (bS (aw hU (pv 2) db (aE _)) (ag (aD db)) aS)
  (ac (psA 3 scRai.nd (ak zT hr (a7 (pv 0) (a7 (pv 2) a9))))
  (ac (bS (aw hU (pv 3) db (aE _)) (ag (aD (pv 2))) aS)
  (ag (bA (ak zU a0 (a7 (pv 0) (a7 (pv 3) (a7 (pv 2) a9)))))))))))
  (ag (aD db))) ?_
 obtain⟨MM,bC⟩:∃MM:Int,MM=((2*C*C+C:Nat):Int)+1:=⟨_,rfl⟩
 refine Y3 (fun k σ H'=>(∃v2 v3,σ= [some (.ref D.a),some (.bl false),v2,v3])/\∃pl' ls' T',ButY T0 D H H'/\Lm T0 H'/\Tab D (m+1) m n scs us ws pl' ls' T' H'/\Okr m n L cf T'/\∃Tf rf qf J,Wg.Rr (m+1) n m m (m+n) (Wg.V1 m n L cf) (Wg.R1 m L) MM Tf rf qf J/\Tf J=T'/\k=2^(m+1+n) - J) (J4 (2^(m+1+n) - 0) (Y4 none none rfl) pl ls T (fun x o _ _ _ _ e=>e) ⟨a5,hT,hO,fun _=>T,J2 (fun _=>0) (fun _=>0) 0 ⟨hO.inv,hO.pm,zG m,hO.so,by omega,fun j hj=>absurd hj (AH _),fun j hj=>absurd hj (AH _)⟩ rfl rfl⟩) ?_
 intro k σ H1 z_;refine hZq fun q_ e_=>?_;obtain⟨⟨v2,v3,rfl⟩,pl',ls',T',bY,au,tb,O,Tf,rf,qf,J,ai,eT,rfl⟩:=z_;subst e_;refine U5 _ rfl _ rfl ?_;refine iteT ?_;refine iteT ?_;refine Y3 _ (fun σ' H' h=>h) ?_;obtain⟨bb,bl⟩:=hW.bnd O.inv O.pm;have C1:(C:Int) < MM:=by omega
 have C2:((2*C*C:Nat):Int) < MM:=by omega
 refine U7 _ rfl D m m n scs us ws pl' ls' T' ⟨rfl,hk,tb,au,fun q H2 bt g l=>?_,fun c hc v aC H2 bt g l=>?_⟩
 . refine ah ?_;refine O5 _ rfl rfl _ rfl ?_;rw[decide_eq_true rfl];refine iteT ?_;exact kn pl' ls' T' H2 (bY.trans (.of_t bt)) g l O q
 have aB:ButY T0 D H H2:=bY.trans (.of_t bt);refine ah ?_;dsimp only;refine ck (fun σ' H'=>H2=H'/\σ'= [some (.ref D.a),some (.bl false),some (.int (c:Int)),v3]) ?_ fun nx t=>?_;rotate_left
 . refine O5 _ rfl rfl _ rfl ?_;rw[decide_eq_false (by intro z;cases z)]
   exact iteF (t _ _ ⟨rfl,rfl⟩)
 rintro σ' H' ⟨rfl,rfl⟩;refine Y3 _ rfl (U7 _ rfl D (m+1) m n scs us ws pl' ls' T' ⟨c,rfl,hk,l,hc,fun i c hi hc=>bN (bl i c hi hc) hW.big,fun q H3 s3=>?_,fun r hr p aT bi H3 s3=>?_⟩)
 . refine ah ?_;refine O5 _ rfl rfl _ rfl ?_;rw[decide_eq_true rfl];refine iteT ?_;refine Y3 _ rfl ?_;exact kc pl' ls' T' c H3 (aB.trans (.of_same s3)) (g.same s3) (l.same s3) O hc v q
 have a4:ButY T0 D H H3:=aB.trans (.of_same s3);have u:=g.same s3;have ao:=l.same s3;refine ah ?_;dsimp only;refine ck (fun σ' H'=>H3=H'/\σ'= [some (.ref D.a),some (.bl false),some (.int (c:Int)),some (.int (r:Int))]) ?_ fun nx t=>?_;rotate_left
 . refine O5 _ rfl rfl _ rfl ?_;rw[decide_eq_false (by intro z;cases z)]
   exact iteF (t _ _ ⟨rfl,rfl⟩)
 rintro σ' H' ⟨rfl,rfl⟩;refine J5 _ rfl _ rfl _ rfl D (m+1) m n scs us ws pl' (Y6 ls' T' r c ⟨rfl,hk,ao,hr,hc,by omega,O.inv.pos,bN bb hW.big,fun a b ha hb=>bN (bl a b ha hb) hW.big,fun a2 a1 H4 n4 bx bg=>?_⟩)
 have bj:T'.hd c < m:=Nat.lt_of_not_le fun y=>by
  have:=O.st c hc y r hr p;omega
 have up:0 < T'.ln m c:=by
  rcases v with y|⟨_,y⟩
  . exact y
  . exact absurd bj y
 have vn:∀ {T2:Wg.Tb},(∀i c,i < m+1->c < n+2->(T2.ln i c).natAbs<=C)->∀i,i < m+1->(Ngv n T2 i↔Wg.val n MM T2 i < 0):=fun{T2} b i hi=>nW C1 (b i (n+1) hi (by omega))
 have S:Wg.Sr (m+1) n m m MM T' r c:=by
  refine⟨hr,hc,p,up,fun d hd hp=>aC d hd (.inl hp),aT,fun i hi hs=>?_,fun i hi hs hn=>?_⟩
  . have:=O.nn i hi hs;rw[vn bl i hi]at this;omega
  . have nt:=bi i hi hs hn;unfold Tgt at nt;by_cases e:T'.ln r n* -T'.ln i c=T'.ln i n* -T'.ln r c/\T'.ln r (n+1)* -T'.ln i c=T'.ln i (n+1)* -T'.ln r c
    . refine .inr ⟨?_,by omega⟩
      unfold Wg.val;have e1:(MM*T'.ln r n+T'.ln r (n+1))* -T'.ln i c=MM*(T'.ln r n* -T'.ln i c)+T'.ln r (n+1)* -T'.ln i c:=by grind
      rw[e1,e.1,e.2];grind
    . refine .inl (Wg.lex_le C2 (bl r (n+1) hr (by omega)) (by rw[A4];exact bl i c hi (by omega)) (bl i (n+1) hi (by omega)) (by rw[A4];exact bl r c hr (by omega)) ?_)
      omega
 subst eT;have a6:(Tf J).ln r c≠0:=by omega
 have I2:=Wg.piv_inv O.inv hr hc a6;have P2:=O.pm.piv hr hc;refine hZq fun q_ e_=>?_;obtain⟨bw,bv,a3,aA,e2⟩:=ai.snoc S;subst e_
 have rm:m≠r:=fun y=>by
  have:=O.so;rw[y]at this p;omega
 refine Y8 (2^(m+1+n) - (J+1)) (Nat.sub_lt_sub_left ai.few (zG J)) (Y4 _ _ rfl) (U4 a2 a1 _ (a4.trans (.of_x bx)) (u.butX ao bx) bg ⟨I2,P2,(if_neg rm).trans O.so,Wg.stl_piv O.st hr p,fun i hi hs=>?_⟩ ⟨bw,J2 bv a3 (J+1) aA e2 rfl⟩);rw[vn (hW.bnd I2 P2).2 i hi];have:=S.keep O.inv O.pm hi hs;omega
def r6:Sp:=fun vs H Q _=>∃(D:TA) (m mm n:Nat) (scs:List Int) (us:List Tr) (ws:List V) (pl:Addr) (ls:List V) (T:Wg.Tb),vs= [.ref D.a]/\Tk K D.C/\Tab D m mm n scs us ws pl ls T H/\Wg.Pm m n T/\
 ∀(t l:Addr) (H':Hp),Same H H'->H' t=some (.tup [.ref l, .int T.bot])->H' l=some (.lst ((Wg.ls n fun j=>lno m n T (mm+j) n).map V.int))->Q (.ref t) H'
theorem ym:FnScope ["table"] ["table"] (af sClo):= .of
theorem x3(F:Fun K "closed_point" "closed_point" sClo f fd)(B:Blt mg)(zL:Cl P w K mg base 2 "term_lines" ["table"] (mV (K:=K))):
 FnOk P w K mg base CX0 3 f fd ["table"] (r6 (K:=K)):=by
 refine F.okb ym fun vs H Q E h=>?_;refine hZq fun q_ e_=>?_;obtain⟨D,m,mm,n,scs,us,ws,pl,ls,T,rfl,hk,y,hP,k⟩:=h;subst e_;refine⟨rfl,fun ai A outer s hr=>?_⟩;have l:(["line"]:List Str).Nodup:=by decide +kernel
 refine Y3 _ (ag (aD (aX (a7 (aY (NC:= ["line"]) (mp:= [none]) rfl (cD (K:=K) rfl (ak zL hr (a7 (pv 0) a9))) (fun _ _ _ _ _=>pgA 0 l) (fun _ _ _ _ _=>aV)
  (fun _ _ _ _ _=>aq (r:=rIxL K) am (pv 0) (br aW ad) fun _ _=>rfl)) (a7 (aI (pv 0) rfl) a9))))) ?_
 have z:(20000:Nat)<=sizeLine:=by decide +kernel
 have n64:=y.n64;refine mM ?_;refine bJ rfl ?_;refine U7 _ rfl D m mm n scs us ws pl ls T ⟨rfl,hk,y,hP,fun l2 u H5 s5 d b=>?_⟩;refine Y8 l2 rfl ⟨_,SqL.of d⟩ (fun L2 g=>?_);refine bh (xs:=u) (fun j acc H6=>Same H5 H6/\H6 L2=some (.lst acc)/\acc=(Wg.ls j fun j=>lno m n T (mm+j) n).map V.int/\j<=n) ⟨aa g,a8,rfl,zc _⟩ (fun j acc H6 p=>SqL.of (p.1 _ _ d)) ?_ ?_
 . intro j x acc H6 i ex z_;refine hZq fun q_ e_=>?_;obtain⟨e,c,rfl,_⟩:=z_;rw[b.1]at i;obtain⟨q,eq,hq⟩:=b.2 j i;subst e_;rw[eq]at ex;cases ex;refine O2 _ rfl 2 rfl q _ (-2) _ rfl rfl (SqL.of (e _ _ hq)) ir ?_;refine CompN.mk (by rw[b.1];exact i) (by rw[yR,Wg.ls_len];omega) c ⟨az g e,a8,?_,i⟩
   rw[gm,zd];rfl
 . intro acc H6 z_;refine hZq fun q_ e_=>?_;obtain⟨e,c,rfl,_⟩:=z_;subst e_;rw[b.1]at c;have v:=(y.same s5).same e;refine Y9 _ rfl D.a D.C D.dx _ _ rfl v.ob hk.cls hk.nb rfl ⟨two,fun t nt=>?_⟩;have st:=aa (o:= .tup [.ref L2, .int T.bot]) nt;exact k t L2 _ ((s5.trans e).trans st) a8 (st _ _ c)
theorem big3{x:Int}(h:x.natAbs<=C)(h2:y.natAbs<=C+1)(hb:C < lim):Big (x*y):=by
 unfold Big;rw[zA];exact zk (AB (z7 h (Nat.le_of_lt hb)) (z7 h2 hb)) (zk (Nat.le_of_eq (Nat.pow_add 2 2600 2600).symm) (Nat.pow_lt_pow_right (by decide) (by decide)))
def TmIn(us:List Tr)(bs:List Bnd):Prop:=us.Nodup/\∀x,x∈us↔∃b∈bs,∃p∈b.ps,p.1=x
theorem gF(hT:H T0=some (.tbl ps))(b:ButT T0 H H'):Kd H H':=by
 have k:∀ {a:Addr} {o:HO},H a=some o->(∀p,o≠ .tbl p)->H' a=some o:=fun{a o} e q=>b _ _ (fun z=>by rw[z,hT]at e;exact q _ (z9 e).symm) e
 exact⟨fun a xs e=>k e (by intro p z;cases z),fun a xs e=>⟨xs,k e (by intro p z;cases z)⟩⟩
noncomputable def sca(ps:List Pq):Int:=lcmF 1 (ps.map (·.2))
def Gpt(m n:Nat)(us:List Tr)(T:Wg.Tb)(G:Tr->Fr):Prop:=
 (T.ln m (n+1)=0/\∃M:Int,1<=M/\∀j u,us[j]?=some u->G u=(fx (Wg.pt (m+1) n M T (m+j)) (T.bot*M),fy (Wg.pt (m+1) n M T (m+j)) (T.bot*M)))\/
 (T.ln m (n+1)≠0/\∀j u,us[j]?=some u->G u=(fx (lno (m+1) n T (m+j) n) T.bot,fy (lno (m+1) n T (m+j) n) T.bot))
structure HOut (P:Program) (w:World) (K:PySem.W.Frag) (T0:Addr) (H H':Hp) (bs:List Bnd) (ps:List Pq) (r:Addr) (us:List Tr) (Tb:Wg.Tb) (G:Tr->Fr):Prop where
 bt:ButT T0 H H'
 lm:Lm T0 H'
 tm:TmIn us bs
 ok:Okr bs.length us.length (Lf bs us) (cfs us ps) Tb
 no:∀c,c < us.length->¬Rsg bs.length bs.length Tb c
 g:Gpt bs.length us.length us Tb G
 ex:∃(rf l d:Addr) (ws2:List V) (us2:List Tr),H' r=some (.tup [.str (Str.ofString "highest"), .ref rf, .ref l, .ref d, .bl (decide (Tb.ln bs.length (us.length+1)=0))])/\
  H' rf=some (.tup [.int (fx (Tb.ln bs.length us.length) (Tb.bot*sca ps)), .int (fy (Tb.ln bs.length us.length) (Tb.bot*sca ps))])/\
  H' l=some (.lst ws2)/\TrsAt H' ws2 us2/\us2.Perm (((hcs us.length Tb bs.length).map fun p=>(p.1,wf (bs.map scl) (Tb.bot*sca ps) p)).map wT)/\(∀(i j:Nat) (t u:Tr),i<=j->us2[i]?=some t->us2[j]?=some u->ltT u t=false)/\Dj.DAt P w K H' d us G
def qZ(P:Program)(w:World)(K:PySem.W.Frag)(T0:Addr):Sp:=fun vs H Q _=>∃(lb:Addr) (v:V) (xs:List V) (bs:List Bnd) (ps:List Pq) (T:List Tr) (e X Y S k C:Nat),vs= [.ref lb,v]/\H lb=some (.lst xs)/\TrsAt H xs (bs.map bdT)/\TrAt H v (sumT ps)/\(∀b∈bs,Gbd T e b)/\Asc ps/\(∀p∈ps,Gm T p.1/\Gq e p)/\e<=8000/\T.length < 60/\1<=bs.length/\bs.length < 64/\ps.length < 60/\k<=60/\Bz bs X Y S k C/\Lm T0 H/\
 (∀p∈ps,p.2.2.natAbs<=Y)/\Y^(ps.length+1) < 2^8000/\(sca ps).natAbs<=C+1/\(∀p∈ps,∃b∈bs,∃q∈b.ps,q.1=p.1)/\
 (∀us,TmIn us bs->Rb bs.length us.length (Lf bs us) (cfs us ps) C/\
  (∀Tb i,Okt bs.length us.length (Lf bs us) Tb->i < bs.length->Tb.sd i < bs.length->Ngv us.length Tb i->(∀c,c < us.length->Tb.ln i c<=0)->False)/\
  ∀Tb c,Okr bs.length us.length (Lf bs us) (cfs us ps) Tb->c < us.length->Rsg bs.length bs.length Tb c->(∀i,i < bs.length+1->Tb.sd i < bs.length->¬Tb.ln i c < 0)->False)/\
 ∀r H' us Tb G,HOut P w K T0 H H' bs ps r us Tb G->Q (.ref r) H'
theorem scHig:FnScope ["bounds","asked","table","weights","scale","column","line","bottom","reached","point"] ["bounds","asked"] (af sHig):= .of
theorem wW(F:Fun K "highest" "highest" sHig f fd)(hk:Tk K C0)(zTo:Cl P w K mg base 43 "table_of" ["bounds","sums"] (qL C0))(zRe:Cl P w K mg base 3 "refuted" ["table"] (qV (K:=K) T0))(zPu:Cl P w K mg base 43 "put_sum" ["table","pairs"] (qX (K:=K)))(zRa:Cl P w K mg base 4 "raised" ["table","enough"] (qW (K:=K) T0))(zWb:Cl P w K mg base 3 "weights_by" ["table","counts","bottom"] (qI (K:=K)))(zHc:Cl P w K mg base 1 "head_counts" ["table","line"] (r4 (K:=K)))(zF:Cl P w K mg base 2 "fraction" ["top","bottom"] kg)(zNu:Cl P w K mg base 3 "numbers_at" ["table","point"] (qY (P:=P) (w:=w) (K:=K)))(zSt:Cl P w K mg base 3 "strict_point" ["table"] (qR (K:=K)))(zCl:Cl P w K mg base 3 "closed_point" ["table"] (r6 (K:=K))):
 FnOk P w K mg base CX0 44 f fd ["bounds","asked"] (qZ P w K T0):=by
 refine F.okb scHig fun vs H Q E h=>?_;refine hZq fun q_ e_=>?_;obtain⟨lb,v,xs,bs,ps,T,e,X,Y,S,k,C,rfl,d7,e2,hv,hg,c4,bi,he,a4,b1,eL,cd,ef,hz,cm,hY,e0,cI,d9,hP,q⟩:=h;subst e_;refine⟨rfl,fun e4 A outer s hr=>?_⟩;have el:Room 4 _:=hr.mono (by decide)
 have aT:Room 3 _:=hr.mono (by decide)
 have d5:Room 2 _:=hr.mono (by decide)
 have eG:Room 1 _:=hr.mono (by decide)
 have nd:=scHig.nd
 refine Y3 _ (ac (psA 2 nd (ak zTo hr (a7 (pv 0) (a7 (bW (a7 (pv 1) a9)) a9))))
  (ac (psA 3 nd (ak zRe aT (a7 (pv 2) a9)))
  (ac (bS (rL (nQ (pv 3)) (aE _)) gW aS)
  (ac (psA 4 nd (ak zPu hr (a7 (pv 2) (a7 (pv 1) a9))))
  (ac (psA 5 nd (ak zRa el (a7 (pv 2) (a7 cV a9))))
  (ac (bS (rL (nQ (pv 5)) (aE _)) gW aS)
  (ac (psA 6 nd (aq am (aI (pv 2) rfl) (br aW ad) fun _ _=>rfl))
  (ac (psA 7 nd (av aR (aI (pv 2) rfl) (pv 4)))
  (ac (psA 3 nd (ak zWb aT (a7 (pv 2) (a7 (ak zHc eG (a7 (pv 2) (a7 (pv 6) a9))) (a7 (pv 7) a9)))))
  (ac (psA 8 nd (gj fO (aq am (pv 6) (br aW ad) fun _ _=>rfl) ad (aE _)))
  (ac (psA 9 nd (cS (cC (pv 8)) (ak zSt aT (a7 (pv 2) a9)) (ak zCl aT (a7 (pv 2) a9))))
  (ag (aD (aX (a7 eh (a7 (ak zF d5 (a7 (aq am (pv 6) (br aW ad) fun _ _=>rfl) (a7 (pv 7) a9))) (a7 (pv 3) (a7 (ak zNu aT (a7 (pv 2) (a7 (pv 9) a9))) (a7 (pv 8) a9))))))))))))))))))) ?_
 have dV:∀ {a b c d e:V},([a,b,c,d,e]:List V).length<=sizeLine:=fun{a b c d e}=>by show 5<=sizeLine;decide
 refine J3 _ rfl _ rfl (by show 1<=sizeLine;decide) (fun l0 eB=>?_)
 have s0:=aa (o:= .lst [v]) eB;have ed:=hv.mono (Kd.of_same s0)
 refine Y6 lb l0 xs ([v]) (Y6 bs ([ps]) T e (O6 X Y S k C rfl (s0 _ _ d7) (e2.mono (Kd.of_same s0)) a8 (.cons ed .nil) ⟨hg,(fun qs m p mp=>by
  rw[zq.mp m]at mp
  exact(bi p mp).1),he,a4,by omega,by show 1<=64;decide,ef,hz,fun D H1 us ws pl ls Tb em s1 tb ok b8 eg uT c2 d0 bw dI eM=>?_⟩))
 have sA:=s0.trans s1
 have a6:TmIn us bs:=⟨b8,fun x=>(c2 x).trans ⟨fun h=>h.elim id fun⟨qs,m,p,mp,e⟩=>(by
  rw[zq.mp m]at mp;refine hZq fun q_ e_=>?_;obtain⟨b,mb,q,mq,e'⟩:=d9 p mp;subst e_
  exact U5 b mb q mq (e'.trans e)),fun h=>Or.inl h⟩⟩
 refine hZq fun q_ e_=>?_;obtain⟨ai,eb,d4⟩:=hP us a6;have fr:∀ {y:Addr},(upd H l0 (.lst [v])) y=none->H y=none:=fun{y} n=>s0.free n;have cn:∀ {H':Hp},ButY T0 D H1 H'->ButT T0 H H':=fun{H'} b x o n ex=>b x o n (fun z=>by rw[z,fr d0]at ex;cases ex) (fun z=>by rw[z,fr bw]at ex;cases ex) (fun z=>by rw[z,fr dI]at ex;cases ex) (sA _ _ ex)
 have hW:=hz.wb hg us;have g:Tk K D.C:=by rw[em];exact hk
 obtain⟨pt,ek⟩:=cm.tbl;subst e_;have d2:us.length < 60:=by omega
 refine ah ?_;refine U7 _ rfl D bs.length us.length C (bs.map scl) us ws pl ls (Lf bs us) ⟨Tb,rfl,g,tb,hW,ok,cm.same sA,d2,fun pl' ls' dj H2 bC bY bR bj aC d8=>?_,eb⟩;refine ah ?_;refine U5 _ rfl _ rfl ?_;rw[decide_eq_true rfl];refine iteF (fk ?_)
 have dl:H pl'=none:=by
  rcases bC with rfl|bC
  . exact fr eM
  . exact sA.free bC
 obtain⟨ez,et⟩:=hW.bnd aC.inv aC.pm;have ey:∀j,j < us.length->Big (cfs us ps j):=fun j hj=>bN (ai.cb j hj) ai.big;refine Y3 _ rfl (U7 _ rfl D bs.length us.length e Y (bs.map scl) us T ws pl' (Y6 ls' dj v ps ⟨rfl,g,bj,aC.pm,hv.mono (gF ek (cn bY)),c4,bi,he,a4,eg,b1,eL,d2,cd,hY,hz.y1,e0,ey,fun kk c hc=>bN (lZ aC.pm ez et hc) hW.big,fun eH H3 bP ev=>?_⟩));have b3:ButT T0 H H3:=fun x o n ex=>bP x o (fun z=>by rw[z,dl]at ex;cases ex) (fun z=>by rw[z,fr bw]at ex;cases ex) (cn bY x o n ex)
 have bI:Lm T0 H3:=by
  have keep:∀ {x:Addr} {o:HO},H2 x=some o->(∀ys,o≠ .lst ys)->H3 x=some o:=fun{x o} ex nl=>bP x o (fun z=>by rw[z,bj.li]at ex;exact nl _ (z9 ex).symm) (fun z=>by rw[z,bj.sd]at ex;exact nl _ (z9 ex).symm) ex
  rcases bR with h|⟨c,h,h2⟩
  . exact .inl (keep h (by intro a z;cases z))
  . exact .inr (Y3 c (keep h (by intro a z;cases z)) (keep h2 (by intro a z;cases z)))
 refine ah ?_;refine U7 _ rfl D bs.length us.length C (bs.map scl) us ws pl' eH (Lf bs us) (Y4 (cfs us ps) (ext bs.length us.length dj (cfs us ps)) ⟨rfl,g,ev,ai,uX aC d8,bI,fun aA aB T4 H4 cr a5 au ao a3=>?_,fun aA aB T4 c H4 cr a5 au ao hc d6 eA=>(d4 T4 c ao hc d6 eA).elim⟩);have b4:ButT T0 H H4:=fun x o n ex=>cr x o n (fun z=>by rw[z,fr d0]at ex;cases ex) (fun z=>by rw[z,fr bw]at ex;cases ex) (fun z=>by rw[z,fr dI]at ex;cases ex) (b3 x o n ex)
 refine ah ?_;refine U5 _ rfl _ rfl ?_;rw[decide_eq_true rfl];refine iteF (fk ?_);refine hZq fun q_ e_=>?_;obtain⟨bb,bl⟩:=ai.bnd ao.inv ao.pm;obtain⟨q4,eo,c8,_,_⟩:=au.ro.2 bs.length (by omega)
 subst e_;have fl:∀b pl,(flds D pl b).lookup (Str.ofString "lines")=some (.ref pl):=fun b pl=>rfl
 have bF:0 < lcmF 1 (ps.map (·.2)):=(dO (M:=Y) (fs:=ps.map (·.2)) (s:=1) (by decide) fun f mf=>by
  obtain⟨p,mp,rfl⟩:=zr.mp mf
  exact⟨(bi p mp).2.gf.pos,hY p mp⟩).1
 have bF:0 < sca ps:=bF;have g0:0 < T4.bot*sca ps:=Au ao.inv.pos bF;have gB:Big (T4.bot*sca ps):=big3 bb cI ai.big;refine O4 _ rfl D.a D.C D.dx _ _ rfl au.ob g.cls g.nl (fl _ _) 1 rfl aA _ (-1) _ rfl rfl (SqL.of au.li) (lu au.ro.1 eo) ?_;refine ah ?_;refine Y9 _ rfl D.a D.C D.dx _ _ rfl au.ob g.cls g.nb rfl (U6 _ rfl _ _ rfl rfl ⟨bN bb ai.big,big1 (C:=C) cI ai.big⟩ ?_);refine ah ?_;refine J5 _ rfl _ rfl _ rfl D (bs.length+1) bs.length us.length (bs.map scl) us ws aA (O9 aB T4 bs.length q4 rfl g au c8 (fun lc H5 wc n5 s5 d3 eT=>?_));have c3:=au.same s5;have cl:=oi (n:=us.length) (T:=T4) (i:=bs.length);refine U7 _ rfl D (bs.length+1) bs.length us.length (bs.map scl) us ws aA aB T4 (Y6 lc wc (hcs us.length T4 bs.length) (T4.bot*sca ps) ⟨rfl,g,c3,d3,eT,fun p mp=>?_,fun x mx=>bN (hW.sc x mx).2 hW.big,g0,gB,by omega,fun l H6 ws2 us2 n6 s6 hl ej pm ee=>?_⟩)
 . refine hZq fun q_ e_=>?_;obtain⟨c,hc,ea,rfl⟩:=jv mp;subst e_;refine⟨?_,?_⟩
   . refine Nat.lt_of_not_le fun y=>a3 c hc ?_;rcases Int.lt_trichotomy (T4.ln bs.length c) 0 with z|z|z
     . exact .inr ⟨z,by omega⟩
     . exact absurd z ea
     . exact .inl z
   . show Big (-T4.ln bs.length c);unfold Big;rw[A4];exact bN (bl _ c (by omega) (by omega)) ai.big
 have bg:=c3.same s6;have dn:=s6 _ _ (s5 _ _ c8);refine ah ?_;refine O2 _ rfl 1 rfl q4 _ (-1) _ rfl rfl (SqL.of dn) mJ ⟨rfl,?_⟩;refine ah ?_
 rw[show decide (V.int (T4.ln bs.length (us.length+1))=V.int 0)=decide (T4.ln bs.length (us.length+1)=0)from by
  by_cases z:T4.ln bs.length (us.length+1)=0
  . rw[decide_eq_true z,decide_eq_true (by rw[z])]
  . rw[decide_eq_false z,decide_eq_false fun y=>z (V.int.inj y)]]
 obtain⟨bv,a1⟩:∃bv,bv=decide (T4.ln bs.length (us.length+1)=0):=⟨_,rfl⟩;rw[<-a1];dsimp only
 refine ck (fun σ' H7=>Same H6 H7/\∃(t l7:Addr) (tp:Nat->Int) (b:Int),σ'= [some (.ref lb),some v,some (.ref D.a),some (.ref l),some (.int (sca ps)),some .non,some (.ref q4),some (.int (T4.bot*sca ps)),some (.bl bv),some (.ref t)]/\H7 t=some (.tup [.ref l7, .int b])/\H7 l7=some (.lst ((Wg.ls us.length tp).map V.int))/\0 < b/\Big b/\
  ∀G:Tr->Fr,(∀j u,us[j]?=some u->G u=(fx (tp j) b,fy (tp j) b))->Gpt bs.length us.length us T4 G) ?_ fun nx b6=>?_
 rotate_left
 . refine U5 _ rfl _ rfl ?_;refine ite2 (fun zb=>?_) fun zb=>?_
   . have z:T4.ln bs.length (us.length+1)=0:=of_decide_eq_true (a1.symm.trans zb);refine U7 _ rfl D (bs.length+1) bs.length us.length C (bs.map scl) us ws aA aB ⟨T4,rfl,g,bg,ai.big,ao.pm,⟨bb,bl⟩,fun t l7 H7 M s7 ht a0 m1 mc mp=>?_⟩;exact b6 _ _ ⟨s7,Y6 t l7 _ (T4.bot*M) ⟨rfl,ht,a0,Au ao.inv.pos (by omega),big3 bb (by omega) ai.big,fun G hG=> .inl ⟨z,Y3 M m1 hG⟩⟩⟩
   . have z:T4.ln bs.length (us.length+1)≠0:=fun y=>zb (by rw[a1];exact decide_eq_true y)
     refine U7 _ rfl D (bs.length+1) bs.length us.length (bs.map scl) us ws aA aB T4 ⟨rfl,g,bg,ao.pm,fun t l7 H7 s7 ht a0=>?_⟩;exact b6 _ _ ⟨s7,Y6 t l7 _ T4.bot ⟨rfl,ht,a0,ao.inv.pos,bN bb ai.big,fun G hG=> .inr ⟨z,hG⟩⟩⟩
 intro σ' H7 z_;refine hZq fun q_ e_=>?_;obtain⟨s7,t,l7,tp,b,rfl,ht,a0,b0,bB,er⟩:=z_;subst e_;have ew:=bg.same s7;refine O2 _ rfl 2 rfl q4 _ (-2) _ rfl rfl (SqL.of (s7 _ _ dn)) ir (U6 _ rfl _ _ rfl g0 gB (fun rf eu=>?_));have a2:=aa (o:= .tup [.int (fx (T4.ln bs.length us.length) (T4.bot*sca ps)), .int (fy (T4.ln bs.length us.length) (T4.bot*sca ps))]) eu;refine J5 _ rfl _ rfl _ rfl D (bs.length+1) bs.length us.length (bs.map scl) us ws aA (O7 aB T4 t l7 b tp rfl g (ew.same a2) (a2 _ _ ht) ⟨a2 _ _ a0,b0,bB,b8,fun u mu=>?_,fun d H8 G e3 s8 da hG=>?_⟩)
 . refine hZq fun q_ e_=>?_;obtain⟨b',mb,p,b7,rfl⟩:=(a6.2 u).mp mu;subst e_;exact⟨((hg b' mb).ps p b7).2.ty,((hg b' mb).ps p b7).2.dep⟩
 refine Y8 _ rfl dV (fun r nr=>?_);have sr:=aa (o:= .tup [.str (Str.ofString "highest"), .ref rf, .ref l, .ref d, .bl bv]) nr;have sE:=((s7.trans a2).trans s8).trans sr;have sF:=(s5.trans s6).trans sE;exact q r _ us T4 G ⟨fun x o n ex=>sF _ _ (b4 x o n ex),a5.same sF,a6,ao,a3,er G hG,rf,l,d,ws2,us2,by rw[<-a1];exact a8,sr _ _ (s8 _ _ a8),sE _ _ hl,ej.mono (Kd.of_same sE),pm,ee,da.same sr⟩
def ofB(b:Bnd):Bd:=⟨b.ps,b.lim,b.st⟩
theorem du{b:Int}(h:0 < b):rv ((fx t b,fy t b):Fr)=(t:Rat) / (b:Rat):=by
 have a:0 < Int.gcd t b:=zB t (by omega)
 have e:((fx t b,fy t b):Fr)=low t b:=by
  unfold fx fy low dv;rw[if_neg (by omega),zO _ (by omega),zO _ (by omega)]
 rw[e];exact jk h
theorem dQ{b:Int}(h:0 < b):(b:Rat)≠0:=by
 intro z;have:b=0:=by exact_mod_cast z
 omega
theorem fj{b:Int}(h:0 < b):(0:Rat) < (b:Rat):=by exact_mod_cast h
theorem mL{f:Fr}(h:0 < f.2)(d:f.2∣s):((wh f s:Int):Rat)=rv f*(s:Rat):=by
 obtain⟨q,rfl⟩:=d;have n:=dQ h;unfold wh rv;rw[Int.mul_ediv_cancel_left _ (by omega)]
 simp only[Rat.intCast_mul];rw[Rat.div_def];grind
theorem jJ{s:Int}{t:Tr}:∀ {a:List Pq},(∀q∈a,q.1≠t)->cw s t a=0
 | [],_=>rfl
 |p::r,h=>by
  simp only[cw];rw[if_neg (h p yT)];exact jJ fun q m=>h q (yU _ m)
theorem tU(h:Asc (p::r)):Asc r/\∀q∈r,q.1≠p.1:=by
 have:=AF.mp h;exact⟨this.2,fun q m e=>fR (this.1 q m) e.symm⟩
variable{a:List Wt}{t:Tr}
open Classical in
theorem oy(h:∀q∈r,q.1≠p.1):cw s t (p::r)=(if p.1=t then wh p.2 s else 0)+cw s t r:=by
 simp only[cw];by_cases e:p.1=t
 . rw[if_pos e,if_pos e,jJ fun q m=>by rw[<-e];exact h q m,Ap]
 . rw[if_neg e,if_neg e,Ax]
noncomputable def linI(s:Int)(x:Tr->Int):List Pq->Int
 | []=>0
 |p::r=>wh p.2 s*x p.1+linI s x r
theorem lM{us:List Tr}(nd:us.Nodup){s:Int}{X:Nat->Int}:∀ {ps:List Pq},Asc ps->(∀p∈ps,p.1∈us)->(Wg.sumN us.length fun c=>cw s (us.getD c .non) ps*X c)=linI s (fun t=>X (Fm.ix us t)) ps
 | [],_,_=>Wg.sumN_zero fun c _=>by simp[cw]
 |p::r,ha,hm=>by
  obtain⟨b,hne⟩:=tU ha;have e:=lM nd (s:=s) (X:=X) b fun q m=>hm q (yU _ m);simp only[linI];rw[<-e]
  classical
  have e1:(Wg.sumN us.length fun c=>cw s (us.getD c .non) (p::r)*X c)=Wg.sumN us.length fun c=>(if p.1=us.getD c .non then wh p.2 s else 0)*X c+cw s (us.getD c .non) r*X c:=Wg.sumN_congr fun c _=>by rw[oy hne,Int.add_mul]
  rw[e1,Wg.sumN_add];congr 1;have mp:=hm p yT;have d:=kG mp;have g:=yF mp;have f:us.getD (Fm.ix us p.1) .non=p.1:=by rw[z8,d];rfl
  rw[Wg.sumN_one g fun c hc a=>?_]
  . rw[f,if_pos rfl]
  . rw[if_neg,zQ];intro z;refine a (ss nd (x:=p.1) ?_ d);rw[yS hc,z,z8,yS hc];rfl
theorem jC{s:Int}{x:Tr->Int}{g:Tr->Rat}{D:Rat}:∀ {ps:List Pq},(∀p∈ps,0 < p.2.2/\p.2.2∣s)->(∀p∈ps,((x p.1:Int):Rat)=g p.1*D)->((linI s x ps:Int):Rat)=(s:Rat)*D*lin g ps
 | [],_,_=>by simp only[linI,lin];grind
 |p::r,h1,h2=>by
  have a:=jC (s:=s) (x:=x) (g:=g) (D:=D) (ps:=r) (fun q m=>h1 q (yU _ m)) fun q m=>h2 q (yU _ m);simp only[linI,lin,Rat.intCast_add,Rat.intCast_mul];rw[a,mL (h1 p yT).1 (h1 p yT).2,h2 p yT];grind
theorem lG{s:Int}{t:Tr}:∀ {ps:List Pq},Asc ps->(∀p∈ps,0 < p.2.2/\p.2.2∣s)->((cw s t ps:Int):Rat)=tot t ps*(s:Rat)
 | [],_,_=>by simp only[cw,tot];grind
 |p::r,ha,h1=>by
  obtain⟨a,hne⟩:=tU ha;have b:=lG (s:=s) (t:=t) a fun q m=>h1 q (yU _ m);rw[oy hne];simp only[tot,Rat.intCast_add];rw[b];by_cases e:p.1=t
  . rw[if_pos e,if_pos e,mL (h1 p yT).1 (h1 p yT).2];grind
  . rw[if_neg e,if_neg e];grind
open Classical in
noncomputable def gw(us:List Tr)(G:Tr->Fr)(t:Tr):Rat:=if t∈us then rv (G t)else 0
theorem bp{bs:List Bnd}{us:List Tr}{k:Nat}{b:Bnd}(e:bs[k]?=some b):Lf bs us k=rowF us b:=by
 unfold Lf;rw[z8,e];rfl
noncomputable def sumL(F:Nat->Int):List (Nat×Int)->Int
 | []=>0
 |p::r=>p.2*F p.1+sumL F r
theorem qC(F:Nat->Int)(a b:List (Nat×Int)):sumL F (a++b)=sumL F a+sumL F b:=by
 induction a with
 |nil=>simp only[List.nil_append,sumL,Ax]
 |cons p r c=>simp only[zK,sumL,c,Int.add_assoc]
theorem k7{F:Nat->Int}{T:Wg.Tb}{i:Nat}:∀n:Nat,sumL F (hcs n T i)=Wg.sumN n fun c=> -T.ln i c*F (T.hd c)
 |0=>rfl
 |n+1=>by
  have e:hcs (n+1) T i=hcs n T i++if T.ln i n≠0 then[(T.hd n,-T.ln i n)]else[]:=by
   unfold hcs;rw[zH,zx,zd];congr 1;by_cases z:T.ln i n=0
   . simp[z]
   . simp[z]
  rw[e,qC,k7 n,Wg.sumN];congr 1;by_cases z:T.ln i n=0
  . rw[if_neg (by simpa using z),z]
    simp[sumL]
  . rw[if_pos z];simp[sumL]
theorem uj{p:Fr}(h:0 < p.2):0 < rv p↔0 < p.1:=by
 have h2:(0:Rat) < (p.2:Rat):=by exact_mod_cast h
 unfold rv;constructor
 . intro q
   have:(0:Rat) < (p.1:Rat):=by
    have:=Rat.mul_pos q h2
    rwa [Rat.div_mul_cancel (by grind)]at this
   exact_mod_cast this
 . intro q;have a:(0:Rat) < (p.1:Rat):=by exact_mod_cast q
   rw[Rat.div_def];exact Rat.mul_pos a (Rat.inv_pos.mpr h2)
theorem iz{bs:List Bd}{b:List Wt}(h:a.Perm b):Su.tot t (aZ bs a)=Su.tot t (aZ bs b):=by
 induction h with
 |nil=>rfl
 |cons x _ c=>simp only[aZ,gc,c]
 |swap x y l=>simp only[aZ,gc];grind
 |trans _ _ h1 h2=>rw[h1,h2]
theorem oJ{bs:List Bd}{b:List Wt}(h:a.Perm b):totR bs a=totR bs b:=by
 induction h with
 |nil=>rfl
 |cons x _ c=>simp only[totR,c]
 |swap x y l=>simp only[totR];grind
 |trans _ _ h1 h2=>rw[h1,h2]
theorem jS{bs:List Bnd}{k:Nat}{b:Bnd}(e:bs[k]?=some b):bdAt (bs.map ofB) k=ofB b:=by
 unfold bdAt;rw[z8,yW,e];rfl
theorem oj{bs:List Bnd}{us T:List Tr}{e:Nat}(hg:∀b∈bs,Gbd T e b){g:Int}(g0:0 < g){t:Tr}{c:Nat}(hc:us[c]?=some t):∀ {cs:List (Nat×Int)},(∀p∈cs,p.1 < bs.length)->
 Su.tot t (aZ (bs.map ofB) (cs.map fun p=>(p.1,wf (bs.map scl) g p)))*(g:Rat)= -((sumL (fun k=>Lf bs us k c) cs:Int):Rat)
 | [],_=>by simp only[List.map_nil,aZ,Su.tot,sumL];grind
 |p::r,h=>by
  have l:=oj hg g0 hc (cs:=r) fun q m=>h q (yU _ m);have hp:=h p yT;have a:bs[p.1]?=some bs[p.1]:=yS hp;have i:=zJ hp;have gb:=hg _ i;obtain⟨o,sd,_⟩:=gb.scl_ok;have es:(bs.map scl).getD p.1 0=scl bs[p.1]:=by rw[z8,yW,a];rfl
  have f:Sh (wf (bs.map scl) g p):=cF (by omega)
  have d:rv (wf (bs.map scl) g p)=((p.2*scl bs[p.1]:Int):Rat) / (g:Rat):=by
   unfold wf;rw[du g0,es]
  have cl:c < us.length:=(yZ.mp hc).1
  have j:Lf bs us p.1 c= -(cw (scl bs[p.1]) t bs[p.1].ps):=by
   rw[bp a];unfold rowF;rw[if_pos cl,z8,hc];rfl
  have tc:=lG (s:=scl bs[p.1]) (t:=t) gb.asc fun q mq=>⟨(gb.ps q mq).2.gf.pos,sd q mq⟩;have n:=dQ g0;simp only[zh,aZ,sumL];rw[gc,jS a];show(Su.tot t (bs[p.1].ps.map (scale (wf (bs.map scl) g p)))+_)*_=_;rw[oI t f fun q mq=>(gb.ps q mq).2.sh,d,j];simp only[Rat.intCast_add,Rat.intCast_mul,Rat.intCast_neg];rw[tc];rw[Rat.div_def];grind
theorem mP{bs:List Bnd}{us T:List Tr}{e:Nat}(hg:∀b∈bs,Gbd T e b){g:Int}(g0:0 < g):∀ {cs:List (Nat×Int)},(∀p∈cs,p.1 < bs.length)->
 totR (bs.map ofB) (cs.map fun p=>(p.1,wf (bs.map scl) g p))*(g:Rat)=((sumL (fun k=>Lf bs us k us.length) cs:Int):Rat)
 | [],_=>by simp only[List.map_nil,totR,sumL];grind
 |p::r,h=>by
  have i:=mP (us:=us) hg g0 (cs:=r) fun q m=>h q (yU _ m);have hp:=h p yT;have a:bs[p.1]?=some bs[p.1]:=yS hp;have gb:=hg _ (zJ hp);obtain⟨l,sd,d⟩:=gb.scl_ok;have es:(bs.map scl).getD p.1 0=scl bs[p.1]:=by rw[z8,yW,a];rfl
  have c:rv (wf (bs.map scl) g p)=((p.2*scl bs[p.1]:Int):Rat) / (g:Rat):=by
   unfold wf;rw[du g0,es]
  have f:Lf bs us p.1 us.length=wh bs[p.1].lim (scl bs[p.1]):=by
   rw[bp a];unfold rowF;rw[if_neg (by omega),if_pos rfl]
  have tc:=mL (s:=scl bs[p.1]) gb.lim.pos d;have j:=dQ g0;simp only[zh,totR,sumL];rw[jS a];show(rv bs[p.1].lim*_+_)*_=_;rw[c,f];simp only[Rat.intCast_add,Rat.intCast_mul];rw[tc,Rat.div_def];grind
theorem yB{a b:Wt}(h:a.1 < b.1):ltT (wtT a) (wtT b)=true:=by
 rw[ltT_iff];simp only[wtT,Tre.code,codes,LtC,LtCs];left;omega
end K46
namespace Wg
theorem sumN_nonpos{f:Nat->Int}(h:∀i,i < n->f i<=0):sumN n f<=0:=by
 have:=bK (f:=fun i=> -1*f i) (n:=n) fun i hi=>by have:=h i hi;omega
 rw[sumN_mul]at this;omega
end Wg
namespace K46
open PySem L2 Mth Tre Wd Su Tw Fm
theorem jc{F:Nat->Int}:∀ {W:List (Nat×Int)},(∀p∈W,0 < p.2/\0<=F p.1)->0<=sumL F W
 | [],_=>Al _
 |p::r,h=>by
  have h1:=h p yT;have:=jc (W:=r) fun q m=>h q (yU _ m);have:=AD (AG h1.1) h1.2;simp only[sumL];omega
structure Hng (m n:Nat) (L:Nat->Nat->Int) (cf:Nat->Int) (s r:Nat->Int):Prop where
 sl:∀k,k < m->s k=(Wg.sumN n fun c=>L k c*s (m+c))+r k
 o:s (m+n)=Wg.sumN n fun c=>cf c*s (m+c)
theorem k6{m n:Nat}{L:Nat->Nat->Int}{s r:Nat->Int}(h:∀k,k < m->s k=(Wg.sumN n fun c=>L k c*s (m+c))+r k):∀ {W:List (Nat×Int)},(∀p∈W,p.1 < m)->sumL s W=(Wg.sumN n fun c=>sumL (fun k=>L k c) W*s (m+c))+sumL r W
 | [],_=>by
  simp only[sumL];rw[Wg.sumN_zero fun i _=>zQ _];omega
 |p::t,hW=>by
  have a:=k6 h (W:=t) fun q m=>hW q (yU _ m);simp only[sumL];rw[a,h p.1 (hW p yT)]
  have e1:(Wg.sumN n fun c=>(p.2*L p.1 c+sumL (fun k=>L k c) t)*s (m+c))=(Wg.sumN n fun c=>p.2*(L p.1 c*s (m+c)))+Wg.sumN n fun c=>sumL (fun k=>L k c) t*s (m+c):=by
   rw[<-Wg.sumN_add];exact Wg.sumN_congr fun c _=>by grind
  rw[e1,Wg.sumN_mul];grind
structure Crt (m n:Nat) (L:Nat->Nat->Int) (cf:Nat->Int) (W:List (Nat×Int)) (V:Int):Prop where
 w:∀p∈W,p.1 < m/\0 < p.2
 c:∀c,c < n->sumL (fun k=>L k c) W= -cf c
 v:sumL (fun k=>L k n) W=V
variable{q:Nat}{r s:Nat->Int}{T:Wg.Tb}
theorem Crt.eq{W:List (Nat×Int)}{V:Int}(h:Crt m n L cf W V)(hs:Hng m n L cf s r):sumL s W+s (m+n)=sumL r W:=by
 rw[k6 hs.sl fun p m=>(h.w p m).1,hs.o]
 have:(Wg.sumN n fun c=>sumL (fun k=>L k c) W*s (m+c))= -1*Wg.sumN n fun c=>cf c*s (m+c):=by
  rw[<-Wg.sumN_mul];exact Wg.sumN_congr fun c hc=>by rw[h.c c hc];grind
 rw[this];omega
noncomputable def tb1(m n:Nat)(L:Nat->Nat->Int)(cf:Nat->Int):Wg.Tb:=ext m n (Wg.tb0 m L) cf
theorem inv1:Wg.Inv (m+1) n (Wg.V1 m n L cf) (Wg.R1 m L) (tb1 m n L cf)/\Wg.Pm (m+1) n (tb1 m n L cf):=⟨om Wg.inv0 Wg.pm0,t7 Wg.pm0⟩
theorem j8{k c:Nat}(h:k < m):(tb1 m n L cf).ln k c=L k c/\(tb1 m n L cf).sd k=k:=⟨if_pos h,if_pos h⟩
theorem mQ(c:Nat):(tb1 m n L cf).ln m c=(if c < n then cf c else 0)/\(tb1 m n L cf).sd m=m+n:=by
 refine⟨?_,if_neg (zN _)⟩;show(if m < m then L m c else oln m n (Wg.tb0 m L) cf c)=_;rw[if_neg (zN _)];unfold oln
 have e:∀j,j < n->cf j*lno m n (Wg.tb0 m L) (m+j) c=if j=c then cf c else 0:=fun j a=>by
  rw[eE fun i hi (e:i=m+j)=>by omega]
  by_cases z:j=c
  . subst z;rw[if_pos ⟨a,rfl⟩,if_pos rfl];exact Int.mul_one _
  . rw[if_neg (fun y=>z (by have:m+c=m+j:=y.2;omega)),if_neg z,zm]
 rw[Wg.sumN_congr e];by_cases hc:c < n
 . rw[Wg.sumN_one hc fun j _ hne=>if_neg hne,if_pos rfl,if_pos hc]
 . rw[if_neg hc];exact Wg.sumN_zero fun j a=>if_neg (by omega)
theorem mR(h:∀i,i < m+1->(tb1 m n L cf).bot*s ((tb1 m n L cf).sd i)=(Wg.sumN n fun c=>(tb1 m n L cf).ln i c*s ((tb1 m n L cf).hd c))+r i)(hr:r m=0):Hng m n L cf s r:=by
 refine⟨fun k hk=>?_,?_⟩
 . have:=h k (by omega)
   rw[(j8 (c:=0) hk).2,Wg.sumN_congr (g:=fun c=>L k c*s (m+c)) fun c _=>by rw[(j8 hk).1];rfl]at this
   have e:(tb1 m n L cf).bot*s k=s k:=Int.one_mul _;omega
 . have:=h m (by omega)
   rw[(mQ 0).2,hr,Wg.sumN_congr (g:=fun c=>cf c*s (m+c)) fun c hc=>by rw[(mQ c).1,if_pos hc];rfl]at this
   have e:(tb1 m n L cf).bot*s (m+n)=s (m+n):=Int.one_mul _;omega
theorem Okr.row(O:Okr m n L cf T){s:Nat->Int}{b e:Int}(h:Hng m n L cf s fun k=>b*L k n+e*L k (n+1)){i:Nat}(hi:i < m+1):T.bot*s (T.sd i)=(Wg.sumN n fun c=>T.ln i c*s (T.hd c))+b*T.ln i n+e*T.ln i (n+1):=by
 refine O.inv.row s b e (fun t ht=>?_) hi;rw[O.pm fun k=>s k*Wg.V1 m n L cf k t,show m+1+n=m+n+1 by omega,Wg.sumN,<-Wg.sumN_app n]
 unfold Wg.R1;by_cases z:t < m
 . have e1:∀k,k < m->s k*Wg.V1 m n L cf k t=if k=t then s t else 0:=fun k hk=>by
    unfold Wg.V1 Wg.V0;rw[if_pos z,if_neg (by omega),if_pos hk]
    by_cases e:k=t
    . rw[if_pos e,if_pos e,e,Int.mul_one]
    . rw[if_neg e,if_neg e,zm]
   have a:∀c,c < n->s (m+c)*Wg.V1 m n L cf (m+c) t= -1*(L t c*s (m+c)):=fun c hc=>by
    unfold Wg.V1 Wg.V0;rw[if_pos z,if_neg (by omega),if_neg (by omega),show m+c - m=c by omega]
    grind
   have d:Wg.V1 m n L cf (m+n) t=0:=by
    unfold Wg.V1;rw[if_pos z,if_pos rfl]
   rw[Wg.sumN_congr e1,Wg.sumN_one z fun k _ hne=>if_neg hne,if_pos rfl,Wg.sumN_congr a,Wg.sumN_mul,d,if_pos z,if_pos z];have:=h.sl t z;have f:∀c,Wg.R0 L c t=L t c:=fun _=>rfl;rw[f,f];omega
 . have g:t=m:=by omega
   subst g
   have e1:∀k,k < t->s k*Wg.V1 t n L cf k t=0:=fun k hk=>by
    unfold Wg.V1;rw[if_neg z,if_pos hk,zm]
   have a:∀c,c < n->s (t+c)*Wg.V1 t n L cf (t+c) t= -1*(cf c*s (t+c)):=fun c hc=>by
    unfold Wg.V1;rw[if_neg z,if_neg (by omega),if_neg (by omega),show t+c - t=c by omega]
    grind
   have d:Wg.V1 t n L cf (t+n) t=1:=by
    unfold Wg.V1;rw[if_neg z,if_neg (by omega),if_pos rfl]
   rw[Wg.sumN_zero e1,Wg.sumN_congr a,Wg.sumN_mul,d,if_neg z,if_neg z];have:=h.o;omega
theorem xI(O:Okr m n L cf T)(hq:q < n):Hng m n L cf (Wg.dr (m+1) T q) fun _=>0:=
 mR (fun i hi=>(Wg.dr_row O.inv O.pm hq inv1.1 inv1.2 hi).trans (Ap _).symm) rfl
theorem Crt.shut{W:List (Nat×Int)}{V:Int}(h:Crt m n L cf W V)(O:Okr m n L cf T)(hq:q < n)(hr:Rsg m m T q)(hl:∀i,i < m+1->T.sd i < m->¬T.ln i q < 0):False:=by
 have b0:=O.inv.pos;have e:=h.eq (xI O hq)
 have z:∀ {W:List (Nat×Int)},sumL (fun _=>0) W=0:=fun{W}=>by
  induction W with
  |nil=>rfl
  |cons p r a=>simp only[sumL];omega
 have b:Wg.dr (m+1) T q (m+n)=T.ln m q:=by
  have:=Wg.dr_sd O.pm hq (i:=m) (by omega)
  rwa [O.so]at this
 rw[z,b]at e
 have at_:∀k,k < m->0<=Wg.dr (m+1) T q k/\(m<=T.hd q->Wg.dr (m+1) T q k=0):=fun k hk=>by
  rcases O.pm.cov (k:=k) (by omega)with⟨i,hi,ei⟩|⟨c,hc,ec⟩
  . rw[<-ei,Wg.dr_sd O.pm hq hi];exact⟨by have:=hl i hi (by omega);omega,fun y=>O.st q hq y i hi (by omega)⟩
  . rw[<-ec,Wg.dr_hd O.pm hc];by_cases y:T.hd c=T.hd q
    . rw[if_pos y];exact⟨by omega,fun x=>by omega⟩
    . rw[if_neg y];exact⟨by omega,fun _=>rfl⟩
 rcases hr with up|⟨f,tm⟩
 . have:=jc (F:=Wg.dr (m+1) T q) fun p mp=>⟨(h.w p mp).2,(at_ p.1 (h.w p mp).1).1⟩;omega
 . have d:∀ {W:List (Nat×Int)},(∀p∈W,p.1 < m)->sumL (Wg.dr (m+1) T q) W=0:=fun{W}=>by
    induction W with
    |nil=>exact fun _=>rfl
    |cons p r a=>
     intro hW;simp only[sumL];rw[a fun x m=>hW x (yU _ m),(at_ p.1 (hW p yT)).2 (by omega),zm]
     rfl
   rw[d fun p mp=>(h.w p mp).1]at e;omega
theorem lT(O:Okr m n L cf T)(M:Int):Hng m n L cf (Wg.pt (m+1) n M T) fun k=>T.bot*(M*L k n+L k (n+1)):=by
 have v:∀i,i < m->Wg.val n M (tb1 m n L cf) i=M*L i n+L i (n+1):=fun i hi=>by
  unfold Wg.val;rw[(j8 hi).1,(j8 hi).1]
 have a:Wg.val n M (tb1 m n L cf) m=0:=by
  unfold Wg.val;rw[(mQ n).1,(mQ (n+1)).1,if_neg (by omega),if_neg (by omega)]
  omega
 have h:=mR (L:=L) (cf:=cf) (s:=Wg.pt (m+1) n M T) (r:=fun i=>T.bot*Wg.val n M (tb1 m n L cf) i) (fun i hi=>Wg.row_at O.inv O.pm inv1.1 inv1.2 hi) (by rw[a,zm])
 exact⟨fun k hk=>by rw[h.sl k hk,v k hk],h.o⟩
theorem Crt.top{W:List (Nat×Int)}{V:Int}(h:Crt m n L cf W V)(O:Okr m n L cf T)(no:∀c,c < n->¬Rsg m m T c)(hC:∀i c,i < m+1->c < n+2->(T.ln i c).natAbs<=C){f:Nat->Int}{b:Int}(b0:0 < b)(hf:Hng m n L cf f fun k=>b*L k n)(f0:∀k,k < m->0<=f k)(fo:f (m+n)=b*V):
 T.ln m n=T.bot*V/\(sumL (fun k=>L k (n+1)) W < 0->T.ln m (n+1)≠0):=by
 have d:=O.inv.pos
 have lo:∀c,c < n->T.ln m c<=0/\(m<=T.hd c->T.ln m c=0):=fun c hc=>by
  have:=no c hc;unfold Rsg at this;omega
 have r1:=O.row (s:=f) (b:=b) (e:=0) ⟨fun k hk=>by rw[hf.sl k hk];omega,hf.o⟩ (zG m)
 rw[O.so,fo]at r1
 have n1:(Wg.sumN n fun c=>T.ln m c*f (T.hd c))<=0:=Wg.sumN_nonpos fun c hc=>by
  by_cases y:T.hd c < m
  . exact Ad (lo c hc).1 (f0 _ y)
  . rw[(lo c hc).2 (by omega),zQ]
    exact Al _
 have up:T.bot*V<=T.ln m n:=by
  refine Int.le_of_mul_le_mul_left (a:=b) ?_ b0;have:T.bot*(b*V)=b*(T.bot*V):=by grind
  omega
 obtain⟨M,u⟩:∃M:Int,M=(C:Int)+1+(sumL (fun k=>L k (n+1)) W*T.bot).natAbs:=⟨_,rfl⟩;have e:=h.eq (lT O M)
 have q:Wg.pt (m+1) n M T (m+n)=M*T.ln m n+T.ln m (n+1):=by
  have:=Wg.pt_sd (M:=M) O.pm (i:=m) (by omega)
  rw[O.so]at this;exact this
 have j:∀ {W:List (Nat×Int)},sumL (fun k=>T.bot*(M*L k n+L k (n+1))) W=T.bot*(M*sumL (fun k=>L k n) W+sumL (fun k=>L k (n+1)) W):=fun{W}=>by
  induction W with
  |nil=>simp[sumL]
  |cons p r t=>simp only[sumL];rw[t];grind
 rw[q,j,h.v]at e
 have nn:=jc (F:=Wg.pt (m+1) n M T) fun p mp=>⟨(h.w p mp).2,(by
  rcases O.pm.cov (k:=p.1) (by have:=(h.w p mp).1;omega)with⟨i,hi,ei⟩|⟨c,hc,ec⟩
  . have hs:T.sd i < m:=by have:=(h.w p mp).1;omega
    rw[<-ei,Wg.pt_sd O.pm hi];have:=O.nn i hi hs;rw[nW (C:=C) (MM:=M) (by omega) (hC i (n+1) hi (by omega))]at this
    omega
  . rw[<-ec,Wg.pt_hd O.pm hc]
    exact Al _:0<=Wg.pt (m+1) n M T p.1)⟩
 have c1:=hC m (n+1) (by omega) (by omega)
 generalize sumL (fun k=>L k (n+1)) W=S at*;have g:T.bot*(M*V+S)=M*(T.bot*V)+S*T.bot:=by grind
 rw[g]at e
 have eq:T.ln m n=T.bot*V:=by
  refine Int.le_antisymm ?_ up;refine Int.le_of_lt_add_one ?_;refine Classical.byContradiction fun y=>?_;have:M*(T.bot*V+1)<=M*T.ln m n:=AA (by omega) (by omega)
  rw[Int.mul_add,Int.mul_one]at this;omega
 refine⟨eq,fun l z=>?_⟩;rw[eq,z]at e;have:=Int.mul_neg_of_neg_of_pos l d;omega
theorem Okr.loose(O:Okr m n L cf T)(h:∀k,k < m->L k (n+1)=0)(hi:i < m+1):T.ln i (n+1)=0:=by
 have:=O.row (s:=fun _=>0) (b:=0) (e:=1) ⟨fun k hk=>by rw[h k hk,Wg.sumN_zero fun c _=>zm _];omega,by rw[Wg.sumN_zero fun c _=>zm _]⟩ hi
 rw[Wg.sumN_zero fun c _=>zm _]at this;omega
theorem Okt.meets(O:Okt m n L T)(h:∀k,k < m->0<=L k n/\0<=L k n+L k (n+1))(hi:i < m)(hs:T.sd i < m)(hn:Ngv n T i)(hle:∀c,c < n->T.ln i c<=0):False:=by
 have d:=O.inv.pos
 have go:∀e:Int,(∀k,k < m->0<=1*L k n+e*L k (n+1))->0<=1*T.ln i n+e*T.ln i (n+1):=fun e he=>by
  have nn:∀k,0<=Wg.sol m n L (fun _=>0) 1 e k:=fun k=>by
   unfold Wg.sol;split
   . rename_i hk;have:=he k hk;rw[Wg.sumN_zero fun c _=>zm _];omega
   . exact Al _
  have r:=Wg.sol_row O.inv O.pm (fun _=>0) 1 e hi;have n1:(Wg.sumN n fun c=>T.ln i c*Wg.sol m n L (fun _=>0) 1 e (T.hd c))<=0:=Wg.sumN_nonpos fun c hc=>Ad (hle c hc) (nn _);have:=AD (AG d) (nn (T.sd i));omega
 have a:=go 0 fun k hk=>by have:=h k hk;omega
 have b:=go 1 fun k hk=>by have:=h k hk;omega
 unfold Ngv at hn;omega
end K46
namespace K46
open PySem L2 Mth Tre Wd Su
theorem jE{e:Nat}(h:1<=e):Gf e zero:=⟨by decide,ze (show(0:Nat) < 2^1 by decide) (zE (by decide) h),ze (show(1:Nat) < 2^1 by decide) (zE (by decide) h)⟩
def qJ(P:Program)(w:World)(K:PySem.W.Frag):Sp:=fun vs H Q _=>∃(u:V) (d:Addr) (us:List Tr) (G:Tr->Fr) (ps:List Pq) (e m:Nat),vs= [u, .ref d]/\TrAt H u (sumT ps)/\Dj.DAt P w K H d us G/\(∀p∈ps,Gq e p/\p.1∈us)/\(∀t∈us,Gf m (G t))/\1+ps.length*(e+m+1)<=8000/\
 ∀(r:Addr) (f:Fr) (H':Hp),Same H H'->H' r=some (.tup [.int f.1, .int f.2])->Sh f->rv f=lin (gw us G) ps->Gf (1+ps.length*(e+m+1)) f->Q (.ref r) H'
theorem scVa:FnScope ["_law_whole_here","_law_numbers","_law_total","_law_term","_law_share"] ["_law_whole_here","_law_numbers"] (af jh):= .of
theorem wx(F:Fun K "_law_value" "_law_value" jh f fd)(zT:Cl P w K mg base 2 "_law_times" ["_law_one","_law_other"] eV)(zP:Cl P w K mg base 2 "_law_plus" ["_law_one","_law_other"] gg):FnOk P w K mg base CX0 3 f fd ["_law_whole_here","_law_numbers"] (qJ P w K):=by
 refine F.okb scVa fun vs H Q E h=>?_;refine hZq fun q_ e_=>?_;obtain⟨u,d,us,G,ps,e,m,rfl,hu,hD,a3,hG,h8,k⟩:=h;subst e_;refine⟨rfl,fun bi A outer s hr=>?_⟩;have aC:=hr.units;have l:Room 2 _:=hr;have z:=zk (Ah (show 30<=64 by decide) _) aC
 have nd:=scVa.nd
 refine Y3 _ (ac (psA 2 nd (aX (a7 ad (a7 ad a9))))
  (ac (bV PassesOwn.never rfl (fA (pv 0)) (ba rfl (aj (pgA 3 nd) (aj (pgA 4 nd) aQ)))
   (ag (psA 2 nd (ak zP l (a7 (pv 2) (a7 (ak zT l (a7 (pv 4) (a7 (Dj.pe_dixJ z (pv 1) (pv 3) fun _ _=>rfl) a9))) a9))))))
  (ag (aD (pv 2))))) ?_
 refine hZq fun q_ e_=>?_;obtain⟨au,ys,rfl,r,t⟩:=at_t hu;subst e_;have yl:=t.len;rw[yR]at yl;refine⟨two,fun z0 bg=>?_⟩;have s0:=aa (o:= .tup [.int 0, .int 1]) bg;have v:=a8 (H:=H) (a:=z0) (o:= .tup [.int 0, .int 1]);generalize upd H z0 (.tup [.int 0, .int 1])=H1 at s0 v ⊢;refine ah ?_
 try dsimp only
 refine J3 _ rfl au rfl ⟨_,SqT.of (s0 _ _ r)⟩ ?_
 refine jF (xs:=ys) (fun q σ H'=>Same H H'/\∃(rt:Addr) (tt:Fr) (v3 v4:Option V),σ= [some (.ref au),some (.ref d),some (.ref rt),v3,v4]/\H' rt=some (.tup [.int tt.1, .int tt.2])/\Sh tt/\Gf (1+q*(e+m+1)) tt/\rv tt=lin (gw us G) (ps.take q))
  ⟨s0,O9 z0 zero none none rfl v gi (jE (by omega)) (by rw[Aa];exact rv_zero)⟩ (fun i σ H' _ p=>SqT.of (p.1 _ _ r)) ?_ ?_
 . intro q y σ H3 ey z_;refine hZq fun q_ e_=>?_;obtain⟨s3,rt,tt,v3,v4,rfl,j,g,c,b⟩:=z_;obtain⟨t',x,a0⟩:=t.get' ey;rw[yW]at x;obtain⟨⟨tm,fr⟩,eq,rfl⟩:=za.mp x;obtain⟨gq,mt⟩:=a3 _ (z5 eq);have ql:q < ps.length:=(yZ.mp eq).1;have qx:(q+1)*(e+m+1)<=ps.length*(e+m+1):=Am _ ql;rw[Nat.succ_mul]at qx;have ty:=gq.ty;have dp:=gq.dep;have ao:=gq.gf;dsimp only at ty dp ao mt;obtain⟨T',x1,y1,rfl,a4,n,a2⟩:=cq a0;obtain⟨rf,rfl,bb⟩:=cG a2;obtain⟨bt,rfl⟩:=Dj.tm_ref ty n;subst e_;refine O3 T' _ rfl (SqT.of (s3 _ _ a4)) rfl _ _ rfl _ _ rfl rfl ?_;refine hZq fun q_ e_=>?_;obtain⟨kvs,a6,_,a5,_⟩:=(hD.same s3).val ty;obtain⟨vv,ev,hv⟩:=a5 mt;subst e_;refine Y3 _ rfl (U5 _ rfl _ rfl (Y9 _ rfl d bt (Dj.ktL tm) kvs vv rfl rfl a6 (Dj.key_tm ty dp (n.mono (Kd.of_same s3))) ev ?_));refine O7 (.ref rf) vv fr (G tm) e m rfl (bZ (s3 _ _ bb)) hv ao ⟨hG tm mt,by omega,fun z1 H5 f1 s5 aB bj e1 g1=>?_⟩
   refine O7 (.ref rt) z1 tt f1 _ (e+m) rfl (bZ (s5 _ _ j)) aB c ⟨g1,by omega,fun z2 H6 f2 s6 a1 aA e2 g2=>?_⟩
   obtain⟨r2,rfl,ai⟩:=cG a1;refine ah ?_;have aT:rv (G tm)=gw us G tm:=by unfold gw;rw[if_pos mt]
   have ef:rv f2=lin (gw us G) (ps.take (q+1)):=by
    rw[e2,e1,b,aH eq,uJ,aT];simp only[lin];grind
   exact⟨s3.trans (s5.trans s6),O9 r2 f2 _ _ rfl ai aA (g2.mono (by rw[Nat.succ_mul];omega)) ef⟩
 . intro σ H3 z_;refine hZq fun q_ e_=>?_;obtain⟨s3,rt,tt,v3,v4,rfl,j,g,c,b⟩:=z_;subst e_;rw[yl]at c;rw[yl,zp]at b;exact Y3 _ rfl (k rt tt H3 s3 j g b c)
theorem ie{α:Type}:∀(l:List α) (i:Nat) (h:i < l.length),(l[i]::l.eraseIdx i).Perm l
 |x::r,0,_=>List.Perm.refl _
 |x::r,i+1,h=>(List.Perm.swap x (r[i]'(by simpa using h)) (r.eraseIdx i)).trans ((ie r i (by simpa using h)).cons x)
def mY(K:PySem.W.Frag):Sp:=fun vs H Q _=>∃(a:Addr) (ns:List Int) (b:Int) (l:Addr) (xs:List V),vs= [.ref a, .int b, .ref l]/\SqL K H a (ns.map V.int)/\ns.length<=63/\0<=b/\b<=50000/\H l=some (.lst xs)/\xs.length<=60/\
 ∀r ys H',H r=none->Same H H'->H' r=some (.lst ys)->ys.Perm xs->Q (.ref r) H'
theorem scMix:FnScope ["_law_script","_law_base","_law_some","_law_left","_law_found"] ["_law_script","_law_base","_law_some"] (af rj):= .of
theorem wP(F:Fun K "_law_mixed" "_law_mixed" rj f fd)(B:Blt mg)(zD:Cl P w K mg base 1 "_law_draw" ["_law_script","_law_k","_law_many"] (gQ K)):FnOk P w K mg base CX0 2 f fd ["_law_script","_law_base","_law_some"] (mY K):=by
 refine F.okb scMix fun vs H Q E h=>?_;refine hZq fun q_ e_=>?_;obtain⟨a,ns,b,l,xs,rfl,hS,v,b0,b5,hl,au,k⟩:=h;subst e_;refine⟨rfl,fun ao A outer s hr=>?_⟩;have n:Room 1 _:=hr;have nd:=scMix.nd
 refine Y3 _ (ac (psA 3 nd (bO dg rfl B.li PyProof.Rows.boot_list (a7 (pv 2) a9)))
  (ac (psA 4 nd (bW a9))
  (ac (dy PassesOwn.never (aw dA (aG ar rfl B.le PySem.boot_len (a7 (pv 3) a9)) ad (aE _))
   (ag (bA (cU PySem.F.plainAttrs_list PySem.F.slot_list_append PySem.F.type_list_append bu (pv 4) (a7 (cU PySem.F.plainAttrs_list PySem.F.slot_list_pop PySem.F.type_list_pop sw (pv 3) (a7 (ak zD n (a7 (pv 0) (a7 (av c9 (pv 1) (aG ar rfl B.le PySem.boot_len (a7 (pv 3) a9))) (a7 (aG ar rfl B.le PySem.boot_len (a7 (pv 3) a9)) a9)))) a9)) a9)))))
  (ag (aD (pv 4)))))) ?_
 have ai:(20000:Nat)<=sizeLine:=by decide +kernel
 refine U9 _ rfl l xs rfl (.inl (SqL.of hl)) (fun p np=>?_);have sp:=aa (o:= .lst xs) np;have hp:=a8 (H:=H) (a:=p) (o:= .lst xs);generalize upd H p (.lst xs)=H1 at sp hp ⊢;refine ah ?_
 try dsimp only
 refine⟨by show 0<=sizeLine;decide,fun q u=>?_⟩
 have x:=aa (o:= .lst []) u;have hq:=a8 (H:=H1) (a:=q) (o:= .lst []);have g:=x _ _ hp;have j:p≠q:=fun z=>by rw[z,u]at hp;cases hp
 have m:H q=none:=sp.free u;have y:=sp.trans x;generalize upd H1 q (.lst [])=H2 at y hq g ⊢;refine ah ?_
 try dsimp only
 refine Y3 (fun kk σ H'=>∃(c acc:List V),kk=c.length/\σ= [some (.ref a),some (.int b),some (.ref l),some (.ref p),some (.ref q)]/\Same H H'/\H' p=some (.lst c)/\H' q=some (.lst acc)/\(acc++c).Perm xs) (U4 _ xs ([]) rfl rfl y g ⟨hq,List.Perm.refl _⟩) ?_;intro kk σ H3 z_;refine hZq fun q_ e_=>?_;obtain⟨c,acc,rfl,rfl,s3,d,e,pm⟩:=z_;subst e_;have pl:=pm.length_eq;rw[zj]at pl;refine J7 _ rfl p c rfl (.inl (SqL.of d)) _ 0 rfl rfl _ rfl ?_;by_cases z:c.length=0
 . rw[decide_eq_false (by omega)]
   refine iteF ?_;have e0:=List.length_eq_zero_iff.mp z;subst e0;rw[Aw]at pm;exact Y3 _ rfl (k q acc H3 m s3 e pm)
 . rw[decide_eq_true (by omega)]
   refine iteT ?_;refine Y3 _ (fun σ' H' h=>h) ?_;refine O5 _ rfl (.inl ⟨rfl,_,SqL.of e⟩) _ rfl ⟨.inl ⟨rfl,_,SqL.of d⟩,U5 _ rfl _ rfl (J7 _ rfl p c rfl (.inl (SqL.of d)) b (c.length:Int) rfl rfl _ rfl (Y5 p c rfl (.inl (SqL.of d)) ?_))⟩;refine Y6 a ns (b+(c.length:Int)) (c.length:Int) ⟨rfl,SqL.same s3 hS,v,by omega,by omega,by omega,fun r r0 r1 _=>?_⟩
   obtain⟨i,rfl⟩:∃i:Nat,r=(i:Int):=⟨r.toNat,by omega⟩
   have t:i < c.length:=by omega
   refine O6 p c (i:Int) i (c[i]) rfl rfl d (by omega) (by omega) ⟨?_,yS t,?_⟩
   . rw[seqIndex_of (by omega) (by omega)]
     simp
   . refine U4 q acc _ rfl rfl ((ae j.symm).trans e) (by omega) ?_
     refine U6 (c.length - 1) (by omega) (c.eraseIdx i) (acc++ [c[i]]) ?_ rfl ?_ ⟨(ae j).trans a8,a8,?_⟩
     . rw[List.length_eraseIdx_of_lt t]
     . exact az m (az np s3)
     . refine List.Perm.trans ?_ pm;rw[AL];refine List.Perm.append_left _ ?_;exact ie c i t
end K46
namespace L2
open PySem Tre
noncomputable def di(f:Expr->Option Tr):List Expr->Option (List Tr)
 | []=>some []
 |e::es=>match f e,di f es with
  |some t,some ts=>some (t::ts)
  |_,_=>none
noncomputable def litE:Nat->Expr->Option Tr
 |0,_=>none
 |n+1,e=>match e with
  | .Constant (.str x) _ _=>some (.str x)
  | .Constant (.int i) _ _=>some (.int i)
  | .UnaryOp .USub (.Constant (.int i) _ _) _=>some (.int (-i))
  | .Tuple es _ _=>if es.length<=100 then(di (litE n) es).map .tup else none
  |_=>none
noncomputable def litL(n:Nat):Expr->Option (List Tr)
 | .List es _=>if es.length<=100 then di (litE n) es else none
 |_=>none
def tLit(t:Tr):TE:=fun _ H Q=>∀v H',Same H H'->TrAt H' v t->Q v H'
def vt(ts:List Tr):TA:=fun _ H Q=>∀vs H',Same H H'->TrsAt H' vs ts->Q vs H'
def vz(ts:List Tr):TE:=fun _ H Q=>∀r vs H',Same H H'->H r=none->H' r=some (.lst vs)->TrsAt H' vs ts->Q (.ref r) H'
theorem PE.imp{t u:TE}(h:PE X e t)(k:∀σ H Q,u σ H Q->t σ H Q):PE X e u:=fun pins s σ H Q I q=>h pins s σ H Q I (k σ H Q q)
theorem PA.imp{t u:TA}(h:PA X es t)(k:∀σ H Q,u σ H Q->t σ H Q):PA X es u:=fun pos pins s σ H Q I q=>h pos pins s σ H Q I (k σ H Q q)
theorem nI{p:Addr}{o:HO}(h:H p=none):Same H (upd H p o):=fun b u e=>by
 rw[ae (ay e h)];exact e
theorem Same.none{H H':Hp}{p:Addr}(s:Same H H')(h:H' p=none):H p=none:=by
 cases e:H p with
 |none=>rfl
 |some o=>rw[s p o e]at h;cases h
theorem i4:∀ {n:Nat} {es:List Expr} {ts:List Tr},di (litE n) es=some ts->ts.length=es.length
 |n,[],ts,h=>by
  rw[di]at h;cases h;rfl
 |n,e::es,ts,h=>by
  rw[di]at h;split at h
  . rename_i t us h1 h2;cases h;rw[zg,zg,i4 h2]
  . cases h
theorem nP:∀n,∀e t,litE n e=some t->PE X e (tLit t)/\∀es,starEach (e::es) X.env=(false,eval e X.env)::starEach es X.env:=by
 intro n
 induction n with
 |zero=>
  intro e t h;rw[litE]at h;cases h
 |succ n g=>
  have b:∀es ts,di (litE n) es=some ts->PA X es (vt ts):=by
   intro es
   induction es with
   |nil=>
    intro ts h;rw[di]at h;cases h;exact PA.imp a9 fun σ H Q q=>q [] H (Same.refl H) .nil
   |cons e es c=>
    intro ts h;rw[di]at h;split at h
    . rename_i t us h1 h2;cases h;obtain⟨f,d⟩:=g e t h1;refine PA.imp (a7 f (c us h2) (d es)) fun σ H Q q=>?_;intro v H1 s1 hv ws H2 a hw;exact q (v::ws) H2 (s1.trans a) (.cons (hv.mono (Kd.of_same a)) hw)
    . cases h
  intro e t h;unfold litE at h;split at h
  . cases h;exact⟨PE.imp eh fun σ H Q q=>q _ H (Same.refl H) xP,fun es=>rfl⟩
  . cases h;exact⟨PE.imp ad fun σ H Q q=>q _ H (Same.refl H) (by unfold TrAt;rfl),fun es=>rfl⟩
  . cases h;exact⟨PE.imp (br aW ad) fun σ H Q q=>(Y3 _ rfl (q _ H (Same.refl H) (by unfold TrAt;rfl))),fun es=>rfl⟩
  . rename_i es k pos;split at h
    . rename_i hl;obtain⟨ts,h1,h2⟩:=za.mp h;cases h2;refine⟨PE.imp (aX (b es ts h1)) fun σ H Q q=>?_,fun es=>rfl⟩;intro vs H1 s1 hv;have l1:=hv.len;have l2:=i4 h1;refine⟨by have:(100:Nat)<=sizeLine:=(by decide +kernel);omega,fun p np=>?_⟩
      have a:=nI (o:= .tup vs) np;exact q (.ref p) _ (s1.trans a) (eO a8 (hv.mono (Kd.of_same a)))
    . cases h
  . cases h
theorem nR(n:Nat):∀ {es:List Expr} {ts:List Tr},di (litE n) es=some ts->PA X es (vt ts)
 | [],ts,h=>by
  rw[di]at h;cases h;exact PA.imp a9 fun σ H Q q=>q [] H (Same.refl H) .nil
 |e::es,ts,h=>by
  rw[di]at h;split at h
  . rename_i t us h1 h2;cases h;obtain⟨c,b⟩:=nP (X:=X) n e t h1;refine PA.imp (a7 c (nR n h2) (b es)) fun σ H Q q=>?_;intro v H1 s1 hv ws H2 a hw;exact q (v::ws) H2 (s1.trans a) (.cons (hv.mono (Kd.of_same a)) hw)
  . cases h
theorem jr(n:Nat){t:Tr}(h:litE n e=some t):PE X e (tLit t):=(nP n e t h).1
theorem f9(n:Nat){ts:List Tr}(h:litL n e=some ts):PE X e (vz ts):=by
 unfold litL at h;split at h
 . rename_i es pos;split at h
   . rename_i hl;refine PE.imp (bW (nR n h)) fun σ H Q q=>?_;intro vs H1 s1 hv;have l1:=hv.len;have l2:=i4 h;refine⟨by have:(100:Nat)<=sizeLine:=(by decide +kernel);omega,fun p np=>?_⟩
     have a:=nI (o:= .lst vs) np;exact q p vs _ (s1.trans a) (s1.none np) a8 (hv.mono (Kd.of_same a))
   . cases h
 . cases h
end L2
namespace L2
open PySem PySem.Spec PyProof.Rows
theorem ub{Q:VK}(h:te σ H fun v H1=>r2 [v] H1 fun x H2=>r1 [x] H2 Q):tCB r1 (cg (tCB r2 (cg te tNil)) tNil) σ H Q:=h
end L2
namespace K46
open PySem L2 Mth Tre Wd Su
theorem xQ{qs ps:List Pq}(pm:qs.Perm ps)(nd:(ps.map (·.1)).Nodup)(ty:∀p∈ps,Ty .tm p.1)(hr:∀(i j:Nat) (p q:Pq),i<=j->qs[i]?=some p->qs[j]?=some q->ltT (prT q) (prT p)=false):Asc qs:=by
 have a:(qs.map (·.1)).Nodup:=by
  rw[(pm.map (·.1)).nodup_iff];exact nd
 unfold Asc;rw[A7];intro i j hi b c;have le:=nY (hr i j _ _ (by omega) (yS hi) (yS b))
 refine vG le ?_
 cases q:eqT (qs[i]).1 (qs[j]).1 with
 |false=>rfl
 |true=>
  have e:=vk (ty _ (pm.mem_iff.mp (zJ hi))) (ty _ (pm.mem_iff.mp (zJ b))) q;have n:=Ag.mp a;rw[A7]at n;exact absurd (by rw[List.getElem_map,List.getElem_map];exact e) (n i j (by rw[yR];exact hi) (by rw[yR];exact b) c)
def ke:Sp:=fun vs H Q _=>∃(lt ls:Addr) (wt ws:List V) (pz:List Pq) (e:Nat),vs= [.ref lt, .ref ls]/\H lt=some (.lst wt)/\TrsAt H wt (pz.map (·.1))/\H ls=some (.lst ws)/\TrsAt H ws (pz.map fun p=>frT p.2)/\pz.length=4/\(pz.map (·.1)).Nodup/\(∀p∈pz,Gq e p)/\
 ∀(r:V) (qs:List Pq) (H':Hp),Same H H'->TrAt H' r (sumT qs)->Asc qs->qs.Perm (pz.filter fun p=>decide (p.2≠zero))->Q r H'
theorem yh:FnScope ["_law_terms","_law_shares"] ["_law_terms","_law_shares"] (af rh):= .of
theorem uC(F:Fun K "_law_whole" "_law_whole" rh f fd)(B:Blt mg):FnOk P w K mg base CX0 1 f fd ["_law_terms","_law_shares"] ke:=by
 refine F.okb yh fun vs H Q E h=>?_;refine hZq fun q_ e_=>?_;obtain⟨lt,ls,wt,ws,pz,e,rfl,aC,a1,au,a5,p4,aB,aA,k⟩:=h;subst e_;refine⟨rfl,fun bj A outer s hr=>?_⟩;have ai:=hr.units;have a0:=zk (Ah (show 1<=64 by decide) _) ai
 have ao:=zk (Ah (show 60<=64 by decide) _) ai
 have bb:(["_law_k","_law_terms","_law_shares"]:List Str).Nodup:=by decide +kernel
 refine Y3 _ (ag (aD (bO dU rfl B.tu PyProof.Rows.boot_tuple (a7 (aG (Dj.call_sT ao) rfl B.so PyProof.Rows.boot_sorted (a7
  (aY (NC:= ["_law_k","_law_terms","_law_shares"]) (mp:= [none,some 0,some 1]) rfl (cB rfl B.ra (a7 ad a9)) (fun _ _ _ _ _=>pgA 0 bb)
   (fun _ _ _ _ _=>cp (aw (r:=rNeP K) (js a0) (aq (r:=rIxL K) am (pv 2) (pv 0) fun _ _=>rfl) (aX (a7 ad (a7 ad a9))) (aE _)))
   (fun _ _ _ _ _=>aX (a7 (aq (r:=rIxL K) am (pv 1) (pv 0) fun _ _=>rfl) (a7 (aq (r:=rIxL K) am (pv 2) (pv 0) fun _ _=>rfl) a9)))) a9)) a9)))) ?_
 have bg:(20000:Nat)<=sizeLine:=by decide +kernel
 refine mN ?_;refine ub ?_;refine cA rfl ?_;refine U8 4 rfl (by decide) (by decide) (fun L nL=>?_)
 refine fY (n:=4) (fun j acc H'=>Same H H'/\H' L=some (.lst acc)/\TrsAt H' acc (((pz.take j).filter fun p=>decide (p.2≠zero)).map prT)) ⟨aa nL,a8,by rw[Aa];exact .nil⟩ ?_ ?_
 . rintro j acc H3 hj ⟨s3,hL,hA⟩;rw[Ax];have jl:j < pz.length:=by omega
   have ep:pz[j]?=some pz[j]:=yS jl;refine hZq fun q_ e_=>?_;obtain⟨x,ex,hx⟩:=a1.get (i:=j) (t:=pz[j].1) (by rw[yW,ep];rfl)
   obtain⟨y,ey,hy⟩:=a5.get (i:=j) (t:=frT pz[j].2) (by rw[yW,ep];rfl)
   have g:=aH ep;generalize pz[j]=p at ep hx hy g;obtain⟨tm,fr⟩:=p;obtain⟨rf,rfl,a4⟩:=cG hy;subst e_;have al:=hA.len;rw[yR]at al;have fl:=zu (fun p:Pq=>decide (p.2≠zero)) (pz.take j);rw[zv]at fl;refine O2 _ rfl _ rfl ls ws (j:Int) (.ref rf) rfl rfl (SqL.of (s3 _ _ au)) (ax ey) ⟨two,fun z nz=>?_⟩;have sz:=aa (o:= .tup [.int 0, .int 1]) nz;refine O7 rf z fr.1 fr.2 0 1 rfl rfl (SqT.of (sz _ _ (s3 _ _ a4))) (SqT.of a8) (Y3 _ rfl ?_);have s4:=s3.trans sz;have d:=sz _ _ hL;have v:=hA.mono (Kd.of_same sz);generalize upd H3 z (.tup [.int 0, .int 1])=H4 at s4 d v ⊢;rw[uV];by_cases zz:fr=zero
   . rw[decide_eq_false (by simpa using zz)]
     refine iteF ?_;refine CompS.mk hj ⟨s4,d,?_⟩;rw[g,zx];simpa [zz]using v
   . rw[decide_eq_true zz];refine iteT ?_;refine O2 _ rfl _ rfl lt wt (j:Int) x rfl rfl (SqL.of (s4 _ _ aC)) (ax ex) (O2 _ rfl _ rfl ls ws (j:Int) (.ref rf) rfl rfl (SqL.of (s4 _ _ au)) (ax ey) ⟨two,fun q nq=>?_⟩);have sq:=aa (o:= .tup [x, .ref rf]) nq;have l:=sq _ _ d;have kd:=(Kd.of_same (s4.trans sq)).trans (Kd.upd (ys:=acc++ [.ref q]) l);have a3:q≠L:=fun z=>by rw[z,d]at nq;cases nq
     refine CompN.mk hj (by omega) l ⟨az nL (s4.trans sq),a8,?_⟩
     rw[g,zx,zd];have e1:([(tm,fr)].filter fun p:Pq=>decide (p.2≠zero)).map prT= [prT (tm,fr)]:=by simp[zz]
     rw[e1];exact TrsAt.app (.cons (cy (a:=tm) (b:=frT fr) ((ae a3).trans a8) (hx.mono kd) (hy.mono kd)) .nil) ((v.mono (Kd.of_same sq)).mono (Kd.upd l))
 . rintro acc H3 ⟨s3,hL,hA⟩;rw[show(4:Nat)=pz.length from p4.symm,zp]at hA;have mem:∀p∈pz.filter fun p=>decide (p.2≠zero),p∈pz:=fun p m=>(zC.mp m).1
   have c:∀t∈(pz.filter fun p=>decide (p.2≠zero)).map prT,Ty .pr t/\t.depth<=8:=fun t m=>by
    obtain⟨p,mp,rfl⟩:=zr.mp m;exact(aA p (mem p mp)).pr
   have fl:=zu (fun p:Pq=>decide (p.2≠zero)) pz;refine U4 L acc _ rfl hL hA (by rw[yR];omega) ⟨fun t m=>⟨vj (.inr (c t m).1),g9 (c t m).1,by have:=(c t m).2;omega⟩,fun t m u mu=>pO 30 (by have:=(c t m).2;omega) (c t m).1 (c u mu).1,fun S ws' bi nS pm a2 aT=>?_⟩
   obtain⟨qs,rfl,pq⟩:=f8 pm rfl;have sS:=aa (o:= .lst ws') nS;refine U3 S ws' rfl (.inl ⟨SqL.of a8,fun p np=>?_⟩);have sp:=aa (o:= .tup ws') np;exact k _ qs _ (s3.trans (sS.trans sp)) (eO a8 (a2.mono (Kd.of_same (sS.trans sp)))) (xQ pq (aB.sublist (List.filter_sublist.map _)) (fun p m=>(aA p (mem p m)).ty) fun i j p q a6 e1 e2=>aT i j _ _ a6 (by rw[yW,e1];rfl) (by rw[yW,e2];rfl)) pq
theorem jY(p:ys.Perm xs):∀ {us:List Tr},TrsAt H xs us->∃vs,TrsAt H ys vs/\vs.Perm us:=by
 induction p with
 |nil=>exact fun{us} h=>Y3 us h (List.Perm.refl _)
 | @cons x l1 l2 p i=>
  intro us h
  cases us with
  |nil=>cases (show _=_ from by unfold TrsAt at h;exact h)
  |cons u r=>
   obtain⟨v,w,e,h1,h2⟩:=h.inv;cases e;obtain⟨vs,h3,p3⟩:=i h2;exact Y3 (u::vs) (.cons h1 h3) (p3.cons u)
 |swap x y l=>
  intro us h
  cases us with
  |nil=>cases (show _=_ from by unfold TrsAt at h;exact h)
  |cons u r=>
   obtain⟨v,w,e,h1,h2⟩:=h.inv;cases e
   cases r with
   |nil=>cases (show _=_ from by unfold TrsAt at h2;exact h2)
   |cons g r=>
    obtain⟨m,k,f,h3,j⟩:=h2.inv;cases f;exact Y3 (g::u::r) (.cons h3 (.cons h1 j)) (List.Perm.swap ..)
 |trans _ _ c a=>
  intro us h;obtain⟨vs,h1,d⟩:=a h;obtain⟨b,h2,p2⟩:=c h1;exact Y3 b h2 (p2.trans d)
theorem tT{b:Bool}:TrAt H (.bl b) (.bl b):=by unfold TrAt;rfl
variable{us:List Tr}
theorem gh{u:Tr}(hD:H D=some (.lst acc))(h:TrsAt H acc us)(hv:TrAt H v u):TrsAt (upd H D (.lst (acc++ [v]))) (acc++ [v]) (us++ [u]):=
 TrsAt.app (.cons (hv.mono (Kd.upd hD)) .nil) (h.mono (Kd.upd hD))
theorem gq4{t0 t1 t2 t3:Tr}{f0 f1 f2 f3:Fr}(ht:∀t∈ [t0,t1,t2,t3],Ty .tm t/\t.depth<=7)(h:∀f∈ [f0,f1,f2,f3],(0 < f.2/\Int.gcd f.1 f.2=1)/\f.1.natAbs < 2^8/\f.2.natAbs < 2^8):∀p∈ [(t0,f0),(t1,f1),(t2,f2),(t3,f3)],Gq 8 p:=by
 intro p m;have e1:p.1∈ [t0,t1,t2,t3]:=A6 (f:=(·.1)) m;have g:p.2∈ [f0,f1,f2,f3]:=A6 (f:=(·.2)) m;obtain⟨a,b⟩:=ht _ e1;obtain⟨c,d,e⟩:=h _ g;exact⟨a,b,⟨c.1,d,e⟩,c⟩
def nb(t:Tr):Bnd:=⟨[(t,(-1,1))],zero,false⟩
noncomputable def pz3(t0 t1 t2 t3:Tr):List Pq:= [(t0,(0,1)),(t1,(0,1)),(t2,(1,1)),(t3,(0,1))]
noncomputable def pzA(t0 t1 t2 t3:Tr):List Pq:= [(t0,(1,4)),(t1,(-60,1)),(t2,(-1,25)),(t3,(9,1))]
noncomputable def pzB(t0 t1 t2 t3:Tr):List Pq:= [(t0,(1,2)),(t1,(-90,1)),(t2,(-1,50)),(t3,(3,1))]
noncomputable def pzO(t0 t1 t2 t3:Tr):List Pq:= [(t0,(3,4)),(t1,(-150,1)),(t2,(1,50)),(t3,(-6,1))]
def b3(p3:List Pq)(most:Int)(st:Bool):Bnd:=⟨p3,(most,1),st⟩
def b0(p:List Pq):Bnd:=⟨p,zero,false⟩
def nz(p:Pq):Bool:=decide (p.2≠zero)
structure Bq (t0 t1 t2 t3:Tr) (most:Int) (st:Bool) (bs:List Bnd):Prop where
 ex:∃p3 pA pB ex,Asc p3/\p3.Perm ((pz3 t0 t1 t2 t3).filter nz)/\Asc pA/\pA.Perm ((pzA t0 t1 t2 t3).filter nz)/\Asc pB/\pB.Perm ((pzB t0 t1 t2 t3).filter nz)/\
  bs.Perm ([nb t0,nb t1,nb t2,nb t3,b3 p3 most st,b0 pA,b0 pB]++ex)/\(ex= []\/∃b∈ [nb t0,nb t1,nb t2,nb t3,b3 p3 most st,b0 pA,b0 pB],ex= [b])
theorem tW{U:TS}{H0:Hp}{pz:List Pq}{wt:List V}{e:Nat}(e1:σ[1]?=some (some (.ref l)))(e4:σ[4]?=some (some (.ref D)))(hl:H l=some (.lst wt))(hw:TrsAt H wt (pz.map (·.1)))(p4:pz.length=4)(nd:(pz.map (·.1)).Nodup)(gq:∀p∈pz,Gq e p)(hD:H D=some (.lst acc))(al:acc.length<=100)(hA:TrsAt H acc us)(nD:H0 D=none)(s:Same H0 H)(k:∀acc' qs H',Same H0 H'->H' D=some (.lst acc')->TrsAt H' acc' (us++ [bdT (b0 qs)])->Asc qs->qs.Perm (pz.filter nz)->U Z σ H'):
 tSeq (vA (tBM K "list" nJ (tVar 4) (cg (tTup (cg (mS ke [] E0 (cg (tVar 1) (cg (vz (pz.map fun p=>frT p.2)) tNil))) (cg (tLit (.tup [.int 0, .int 1])) (cg (tC (.bl false)) tNil)))) tNil))) U Z σ H:=by
 have g:(20000:Nat)<=sizeLine:=by decide +kernel
 refine O5 _ e4 (.inl ⟨rfl,_,SqL.of hD⟩) _ e1 (fun r1 j H4 c n1 h1 m=>?_);refine O7 l r1 wt j pz e rfl (c _ _ hl) (hw.mono (Kd.of_same c)) h1 ⟨m,p4,nd,gq,fun w q H5 s5 hq asc pm=>?_⟩;refine fun f H6 h h2=>⟨by show 3<=sizeLine;decide,fun p3 n3=>?_⟩
 have t3:=aa (o:= .tup [w,f, .bl false]) n3;have sA:=((c.trans s5).trans h).trans t3;have b:=sA _ _ hD;have d:=hA.mono (Kd.of_same sA);have i:=a8 (H:=H6) (a:=p3) (o:= .tup [w,f, .bl false]);refine U4 D acc _ rfl rfl b (by omega) ?_
 exact k _ q _ (az nD (s.trans sA)) a8 (gh b d (eO i (.cons (hq.mono (Kd.of_same (h.trans t3))) (.cons (h2.mono (Kd.of_same t3)) (.cons tT .nil))))) asc pm
def gR(K:PySem.W.Frag):Sp:=fun vs H Q _=>∃(a:Addr) (ns:List Int) (l:Addr) (wt:List V) (t0 t1 t2 t3:Tr) (most:Int) (st:Bool),vs= [.ref a, .ref l, .int most, .bl st]/\SqL K H a (ns.map V.int)/\ns.length<=63/\H l=some (.lst wt)/\TrsAt H wt [t0,t1,t2,t3]/\ [t0,t1,t2,t3].Nodup/\(∀t∈ [t0,t1,t2,t3],Ty .tm t/\t.depth<=7)/\1<=most/\most<=9/\
 ∀(r:Addr) (bvs:List V) (bs:List Bnd) (H':Hp),Same H H'->H r=none->H' r=some (.lst bvs)->TrsAt H' bvs (bs.map bdT)->Bq t0 t1 t2 t3 most st bs->Q (.ref r) H'
noncomputable def nBo:List Str:= ["_law_script","_law_terms","_law_most","_law_strict","_law_bounds_here","_law_k"]
theorem scBo:FnScope nBo ["_law_script","_law_terms","_law_most","_law_strict"] (af jj):= .of
theorem oV(F:Fun K "_law_bounds" "_law_bounds" jj f fd)(B:Blt mg)(zD:Cl P w K mg base 1 "_law_draw" ["_law_script","_law_k","_law_many"] (gQ K))(zW:Cl P w K mg base 1 "_law_whole" ["_law_terms","_law_shares"] ke)(zM:Cl P w K mg base 2 "_law_mixed" ["_law_script","_law_base","_law_some"] (mY K)):FnOk P w K mg base CX0 3 f fd ["_law_script","_law_terms","_law_most","_law_strict"] (gR K):=by
 refine F.okb scBo fun vs H Q E h=>?_;refine hZq fun q_ e_=>?_;obtain⟨a,ns,l,wt,t0,t1,t2,t3,most,st,rfl,hS,z,hl,hT,au,aC,m1,m9,k⟩:=h;subst e_;refine⟨rfl,fun dn A outer s hr=>?_⟩;have g:Room 1 _:=hr.mono (by decide)
 have b6:Room 2 _:=hr;have nd:=scBo.nd
 refine Y3 _ (ac (psA 4 nd (bW a9))
  (ac (bV PassesOwn.never rfl (cB rfl B.ra (a7 ad a9)) (pgA 5 nd)
   (ag (bA (cU PySem.F.plainAttrs_list PySem.F.slot_list_append PySem.F.type_list_append bu (pv 4) (a7 (aX (a7 (aX (a7 (aX (a7 (aq am (pv 1) (pv 5) fun _ _=>rfl) (a7 (jr 9 (t:= .tup [.int (-1), .int 1]) rfl) a9))) a9)) (a7 (jr 9 (t:= .tup [.int 0, .int 1]) rfl) (a7 cV a9)))) a9)))))
  (ac (bA (cU PySem.F.plainAttrs_list PySem.F.slot_list_append PySem.F.type_list_append bu (pv 4) (a7 (aX (a7 (ak zW g (a7 (pv 1) (a7 (f9 9 (ts:=(pz3 t0 t1 t2 t3).map fun p=>frT p.2) rfl) a9))) (a7 (aX (a7 (pv 2) (a7 ad a9))) (a7 (pv 3) a9)))) a9)))
  (ac (bA (cU PySem.F.plainAttrs_list PySem.F.slot_list_append PySem.F.type_list_append bu (pv 4) (a7 (aX (a7 (ak zW g (a7 (pv 1) (a7 (f9 9 (ts:=(pzA t0 t1 t2 t3).map fun p=>frT p.2) rfl) a9))) (a7 (jr 9 (t:= .tup [.int 0, .int 1]) rfl) (a7 cV a9)))) a9)))
  (ac (bA (cU PySem.F.plainAttrs_list PySem.F.slot_list_append PySem.F.type_list_append bu (pv 4) (a7 (aX (a7 (ak zW g (a7 (pv 1) (a7 (f9 9 (ts:=(pzB t0 t1 t2 t3).map fun p=>frT p.2) rfl) a9))) (a7 (jr 9 (t:= .tup [.int 0, .int 1]) rfl) (a7 cV a9)))) a9)))
  (ac (bS (aw fO (ak zD g (a7 (pv 0) (a7 ad (a7 ad a9)))) ad (aE _))
   (ag (bA (cU PySem.F.plainAttrs_list PySem.F.slot_list_append PySem.F.type_list_append bu (pv 4) (a7 (aq am (pv 4) (ak zD g (a7 (pv 0) (a7 ad (a7 ad a9)))) fun _ _=>rfl) a9)))) aS)
  (ag (aD (ak zM b6 (a7 (pv 0) (a7 ad (a7 (pv 4) a9)))))))))))) ?_
 have dj:(20000:Nat)<=sizeLine:=by decide +kernel
 refine⟨by show 0<=sizeLine;decide,fun D nD=>?_⟩
 have sD:=aa (o:= .lst []) nD;have aB:=a8 (H:=H) (a:=D) (o:= .lst []);generalize upd H D (.lst [])=H2 at sD aB ⊢;refine ah ?_
 try dsimp only
 have tl:([t0,t1,t2,t3]:List Tr).length=4:=rfl;obtain⟨ts,bj⟩:∃ts,ts= [t0,t1,t2,t3]:=⟨_,rfl⟩;rw[<-bj]at hT tl;refine U8 4 rfl (by decide) (by decide) ?_
 refine fH (n:=4) (fun j σ H'=>Same H H'/\∃(acc:List V) (v5:Option V),σ= [some (.ref a),some (.ref l),some (.int most),some (.bl st),some (.ref D),v5]/\H' D=some (.lst acc)/\TrsAt H' acc (((ts.take j).map nb).map bdT))
  ⟨sD,Y5 ([]) none rfl aB (by rw[Aa];exact .nil)⟩ ?_ ?_
 . intro j σ H3 hj z_;refine hZq fun q_ e_=>?_;obtain⟨s3,acc,v5,rfl,y,u⟩:=z_;subst e_;rw[Ax];refine ah ?_
   try dsimp only
   have ej:ts[j]?=some ts[j]:=yS (by omega)
   obtain⟨x,ex,hx⟩:=hT.get (i:=j) ej;have a1:=aH ej;generalize ts[j]=t at ej hx a1;have al:=u.len;rw[yR,yR,zv]at al;refine Y8 _ rfl (.inl ⟨rfl,_,SqL.of y⟩) (O2 _ rfl _ rfl l wt (j:Int) x rfl rfl (SqL.of (s3 _ _ hl)) (ax ex) (fun v1 H4 s4 h1=>⟨two,fun d n1=>⟨by show 1<=sizeLine;decide,fun p2 n2 v2 H5 s5 h2=>⟨by show 3<=sizeLine;decide,fun p3 n3=>?_⟩⟩⟩))
   have bv:=hx.mono (Kd.of_same (s3.trans s4));have t1:=aa (o:= .tup [x,v1]) n1;have t2:=aa (o:= .tup [.ref d]) n2;have t3:=aa (o:= .tup [.ref p2,v2, .bl false]) n3;have m:=(t2.trans s5).trans t3;have sA:=((s4.trans t1).trans m);have a4:=sA _ _ y;have e3:=a8 (H:=H5) (a:=p3) (o:= .tup [.ref p2,v2, .bl false]);have e2:=(s5.trans t3) _ _ (a8 (H:=upd H4 d (.tup [x,v1])) (a:=p2) (o:= .tup [.ref d]));have e1:=m _ _ (a8 (H:=H4) (a:=d) (o:= .tup [x,v1]));have cr:=bv.mono (Kd.of_same (t1.trans m));have c3:=h1.mono (Kd.of_same (t1.trans m));have c2:=h2.mono (Kd.of_same t3);have bY:=u.mono (Kd.of_same sA);have s6:=s3.trans sA;clear t1 t2 t3 m sA bv h1 h2;generalize upd H5 p3 (.tup [.ref p2,v2, .bl false])=H6 at*;refine U4 D acc _ rfl rfl a4 (by omega) ?_
   refine⟨az nD s6,Y5 (acc++ [.ref p3]) _ rfl a8 ?_⟩;rw[a1,zd,zd];exact gh a4 bY (eO e3 (.cons (eO e2 (.cons (cy e1 cr c3) .nil)) (.cons c2 (.cons tT .nil))))
 . intro σ H3 z_;refine hZq fun q_ e_=>?_;obtain⟨s3,acc,v5,rfl,y,u⟩:=z_;subst e_;rw[show(4:Nat)=ts.length from tl.symm,zp]at u;subst bj;have hw:∀ {H':Hp},Same H H'->TrsAt H' wt [t0,t1,t2,t3]:=fun{H'} s=>hT.mono (Kd.of_same s);have al:=u.len;refine O5 _ rfl (.inl ⟨rfl,_,SqL.of y⟩) _ rfl (fun r1 v1 H4 s4 n1 h1 T1=>?_);refine O7 l r1 wt v1 (pz3 t0 t1 t2 t3) 8 rfl (s4 _ _ (s3 _ _ hl)) (hw (s3.trans s4)) h1 ⟨T1,rfl,au,gq4 aC (by decide),fun w3 q3 H5 s5 bP a2 cd=>?_⟩
   refine Y8 _ rfl two (fun d a6=>Y8 _ rfl (by show 3<=sizeLine;decide) (fun p3 n3=>?_))
   have t1:=aa (o:= .tup [.int most, .int 1]) a6;have t3:=aa (o:= .tup [w3, .ref d, .bl st]) n3;have sA:=((s4.trans s5).trans t1).trans t3;have aT:=sA _ _ y;have s6:=s3.trans sA;have bi:=u.mono (Kd.of_same sA);have e3:=a8 (H:=upd H5 d (.tup [.int most, .int 1])) (a:=p3) (o:= .tup [w3, .ref d, .bl st]);have e1:=t3 _ _ (a8 (H:=H5) (a:=d) (o:= .tup [.int most, .int 1]));have bI:=bP.mono (Kd.of_same (t1.trans t3));clear t1 t3 sA;generalize upd (upd H5 d (.tup [.int most, .int 1])) p3 (.tup [w3, .ref d, .bl st])=H6 at*;refine U4 D acc _ rfl rfl aT (by rw[al];show 4 < sizeLine;omega) ?_
   have aA:=gh aT bi (eO e3 (.cons bI (.cons (cy e1 at_i at_i) (.cons tT .nil))):TrAt H6 (.ref p3) (bdT (b3 q3 most st)));have s7:=az nD (o:= .lst (acc++ [.ref p3])) s6;have bF:=a8 (H:=H6) (a:=D) (o:= .lst (acc++ [.ref p3]));clear e1 e3 bI bi u y aT s6 s3 s4 s5 h1 T1 bP n1 a6 n3;generalize upd H6 D (.lst (acc++ [.ref p3]))=H7 at*;generalize acc++ [.ref p3]=c8 at*;have bB:=aA.len;refine tW (pz:=pzA t0 t1 t2 t3) rfl rfl (s7 _ _ hl) (hw s7) rfl au (gq4 aC (by decide)) bF (by rw[bB];show 5<=100;decide) aA nD s7 fun c4 qA H8 s8 bw a0 a5 b7=>?_
   have bC:=a0.len;refine tW (pz:=pzB t0 t1 t2 t3) rfl rfl (s8 _ _ hl) (hw s8) rfl au (gq4 aC (by decide)) bw (by rw[bC];show 6<=100;decide) a0 nD s8 fun c qB H9 s9 e ai a3 cI=>?_
   have cn:=ai.len;obtain⟨q,v⟩:∃q,q= [nb t0,nb t1,nb t2,nb t3,b3 q3 most st,b0 qA,b0 qB]:=⟨_,rfl⟩;have eA:TrsAt H9 c (q.map bdT):=by rw[v];exact ai
   have l7:q.length=7:=by rw[v];rfl
   have la:=eA.len;rw[yR,l7]at la;clear ai a0 aA cn bC bB bw bF aB sD;refine ck (fun σ' H'=>σ'= [some (.ref a),some (.ref l),some (.int most),some (.bl st),some (.ref D),v5]/\Same H H'/\∃acc ex,H' D=some (.lst acc)/\TrsAt H' acc ((q++ex).map bdT)/\(ex= []\/∃b∈q,ex= [b])) ?_ fun nx bb=>?_;rotate_left
   . refine Y2 _ rfl a ns 2 2 ⟨rfl,SqL.same s9 hS,z,by decide,by decide,by decide,fun r _ _ _=>⟨rfl,Y3 _ rfl ?_⟩⟩
     refine ite2 (fun _=>?_) fun _=>bb _ _ ⟨rfl,s9,Y5 c ([]) e (by rw[Aw];exact eA) (.inl rfl)⟩
     refine Y8 _ rfl (.inl ⟨rfl,_,SqL.of e⟩) (O2 _ rfl _ rfl a ns 3 7 rfl (SqL.same s9 hS) z (by decide) ⟨by decide,by decide,fun r r0 r7 _=>?_⟩)
     refine hZq fun q_ e_=>?_;obtain⟨i,rfl⟩:∃i:Nat,r=(i:Int):=⟨r.toNat,by omega⟩
     have ei:q[i]?=some q[i]:=yS (by omega)
     obtain⟨x,ex,hx⟩:=eA.get (i:=i) (t:=bdT q[i]) (by rw[yW,ei];rfl)
     subst e_;refine O9 D c (i:Int) x rfl rfl (SqL.of e) (ax ex) (U4 D c _ rfl rfl e (by omega) ?_)
     refine bb _ _ ⟨rfl,az nD s9,Y5 _ ([q[i]]) a8 ?_ (.inr (Y3 _ (zJ _) rfl))⟩;rw[zd];exact gh e eA hx
   intro σ' dl z_;refine hZq fun q_ e_=>?_;obtain⟨rfl,ao,acc,ex,y,u,bg⟩:=z_;subst e_;have al:=u.len
   have e1:ex.length<=1:=by
    rcases bg with rfl|⟨b,_,rfl⟩
    . exact zc _
    . exact yV _
   rw[yR,zj,l7]at al;refine Y3 _ rfl (Y9 _ rfl a ns 20 D acc rfl (SqL.same ao hS) z (by decide) (by decide) ⟨y,by omega,fun r ys b8 nr bR hr pm=>?_⟩)
   refine hZq fun q_ e_=>?_;obtain⟨vs,cm,pv⟩:=jY pm (u.mono (Kd.of_same bR));obtain⟨bs,rfl,pb⟩:=f8 pv rfl;subst e_;exact k r ys bs b8 (ao.trans bR) (ao.free nr) hr cm ⟨q3,qA,qB,ex,a2,cd,a5,b7,a3,cI,by rw[<-v];exact pb,by rw[<-v];exact bg⟩
end K46
namespace Dj
open PySem PySem.Spec PyProof.Rows L2 Tre Wd Su
theorem uU{kvs:List Ent}{o:Obj}(I:Inv X pins σ H s)(ha:H a=some (dJ P w a kvs))(ho:s.heap.get? a=some o):Inv X pins σ (upd H a (.frz o (dJ P w a kvs))) s:=by
 have ne:∀ {b:Addr} {u:HO},H b=some u->(∀z,dJ P w a kvs=z->u≠z)->b≠a:=fun e q z=>by
  rw[z,ha]at e;exact q _ rfl (z9 e).symm
 have st:∀ {b:Addr} {u:HO},ObjOk X.prog X.w H s.heap b u->ObjOk X.prog X.w (upd H a (.frz o (dJ P w a kvs))) s.heap b u:=fun x=>
  x.stay (fun _ _ _ q=>q) (fun b q=>by rw[ae (ne q fun z e=>by subst e;intro t;cases t)];exact q) fun b xs q=>by rw[ae (ne q fun z e=>by subst e;intro t;cases t)];exact q
 exact I.step (h':=s.heap) (g':=s.gens) (d':=s.drawn) (t':=s.toks) (ch:= []) (fun _ z=>nomatch z) (fun b o _ _ _ e _=>e) (fun b o _ _ _ e _=>⟨o.slots,e⟩)
  (fun b o _ e n=>by rw[ae (fun z=>by rw[z,ha]at n;cases n)];exact n) (fun b o _ e=>⟨o,e⟩)
  (fun b xs e=>by rw[ae (ne e fun z q=>by subst q;intro t;cases t)];exact e) (fun b o' u e=>by rw[ae (ne e fun z q=>by subst q;intro t;cases t)];exact e)
  (fun b ps e=>⟨#[],by rw[ae (ne e fun z q=>by subst q;intro t;cases t),e];simp⟩) (fun m hm=>hm) (fun b u e=>by
   by_cases z:b=a
   . subst z;rw[a8]at e;cases e;exact⟨ho,st (I.hok b _ ha)⟩
   . rw[ae z]at e
     exact st (I.hok b u e)) I.bare
end Dj
namespace Dj
open PySem PySem.Spec PySem.W PyProof.Rows L2 Tre
abbrev IiAt(h:Heap)(it d:Addr)(i n ep:Nat)(f0:Value)(f:Bool)(ok ov:Value):Prop:=
 h.get? it=some {cls:= .type "dict_itemiterator",dict:=none,data:= .fields #[f0, .bool f, .ref d, .int i 0, .int n 0, .int ep 0,ok,ov],slots:= #[]}
def Ii(h:Heap)(it d:Addr)(i n ep:Nat):Prop:=∃f0 f ok ov,IiAt h it d i n ep f0 f ok ov/\(f0= .none\/∃a:Nat,f0=rawInt a)
theorem iD:entryFor table "dict_itemiterator.__iter__"=some Builtin.«dict_keyiterator.__iter__»:=
 entryFor_alias (id':="dict_keyiterator.__iter__") (by kernel_rfl) rfl (by decide +kernel) (by kernel_rfl)
variable{es:Array DictEntry}{v:Addr}
theorem oP(hd:(d==sysModules)=false)(hm:RawD s.heap d es ep)(hQ:Q (.ref s.heap.objs.size) {s with heap:=s.heap.push {cls:= .type "dict_items",data:= .fields #[.ref d]}}):wpAny (model prog w) A (call (.builtin "dict.items") [.ref d]) Q E s:=by
 have a:=hm.ty;refine wpAny_call_entry F.slot_dict_items a F.entry_dict_items ?_ (F.args_dict_items_1 _);unfold Builtin.«dict.items»;refine wpAny_bind ?_;unfold Builtin.Dict.noArgs;refine wpAny_bind (wpAny_notOrdered_dict a ?_);show wpAny _ _ (pure d) _ _ s;refine wpAny_pure ?_;show wpAny _ _ (Builtin.Dict.showsAll d >>=_) _ _ s;unfold Builtin.Dict.showsAll;rw[if_neg (by rw[hd];exact zt)]
 refine wpAny_bind (wpAny_pure ?_);exact wpAny_bind (wpAny_newObj_type (wpAny_pure ⟨_,rfl,hQ⟩))
theorem m8(hv:s.heap.IsItemsView v d)(hm:RawD s.heap d es ep)(hQ:Q (.ref s.heap.objs.size) {s with heap:=s.heap.push {cls:= .type "dict_itemiterator",data:= .fields #[.none, .bool false, .ref d, .int 0 0, .int es.size 0, .int ep 0, .none, .none]}}):
 wpAny (model prog w) A (pyIter (.ref v)) Q E s:=by
 obtain⟨ov,c,f,e⟩:=id hv;obtain⟨o,ho,hc,a⟩:=id hm;refine wpAny_pyIter_slot hv.typeIs F.slot_dict_items_iter (wpAny_call_entry F.slot_dict_items_iter hv.typeIs F.entry_dict_items_iter ?_ (F.args_dict_items_iter_1 _));unfold Builtin.«dict_items.__iter__»;refine wpAny_bind (wpAny_pure ?_);refine wpAny_bind ?_;unfold Builtin.Dict_items.dictOf;refine wpAny_bind (wpAny_field c e (x:= .ref d) rfl (wpAny_pure ?_));refine wpAny_bind ?_;unfold Builtin.Dict_items.newIterator;refine wpAny_bind (wpAny_dictEntries ho a ?_);refine wpAny_bind (wpAny_dictEpoch ho a ?_);have b:Builtin.Dict_items.ownsTuple "dict_itemiterator"=true:=by decide
 simp only[b,if_true]
 refine wpAny_newObj_type (wpAny_pure (U9 _ rfl ("dict_itemiterator") _ (Y3 _ (Heap.get?_push_size _ rfl) rfl) F.slot_dict_itemiterator_next.lookup ?_))
  (by simp only[sizeOk,Builtin.Dict_items.ownedTupleFields,yX,zj,zg,List.length_nil,sizeLine_eq];omega)
 simpa [rawInt,Builtin.Dict_items.ownedTupleFields]using hQ
variable{u:HO}{kvs:List (V×V)}{Q:Option Value->Shared->Prop}{l:Expr}{o:Obj}{np:Pos}{nm:Str}
theorem pL{Q:Option Obj->Shared->Prop}(h:∀r,Q r s):wpAny (model prog w) A (loadIfAlive a) Q E s:=fun _ _ _=>h _
theorem m6(hit:Ii s.heap it d i es.size ep)(hm:RawD s.heap d es ep)(hi:i < es.size)(hQ:∀h',Ii h' it d (i+1) es.size ep->h'.get? s.heap.objs.size=some {cls:= .type "tuple",data:= .seq #[es[i].key,es[i].val]}->h'.objs.size=s.heap.objs.size+1->
  (∀b o,b≠it->s.heap.get? b=some o->h'.get? b=some o)->Q (some (.ref s.heap.objs.size)) {s with heap:=h'}):
 wpAny (model prog w) A (pyNext (.ref it)) Q E s:=by
 refine hZq fun q_ e_=>?_;obtain⟨hp,g,dr,tk,os⟩:=s;obtain⟨f0,f,ok,ov,hit,a2⟩:=hit;obtain⟨od,a0,bb,aT⟩:=id hm;subst e_;have hT:Shared.TypeIs ⟨hp,g,dr,tk,os⟩ (.ref it) "dict_itemiterator":=Y3 _ hit rfl;unfold pyNext
 refine wpAny_bind (wpAny_attempt (wpAny_callSpecial?_slot (name:=Str.ofString "__next__") hT F.slot_dict_itemiterator_next
  (wpAny_call_entry F.slot_dict_itemiterator_next hT F.entry_dict_itemiterator_next ?_ (F.args_dict_itemiterator_next_1 _))))
 refine wpAny_bind (wpAny_pure ?_);refine wpAny_bind ?_;refine wpAny_bind ?_
 first|refine wpAny_bind (wpAny_typeNameOfWhole_itemiter hT (wpAny_pure ?_))|refine wpAny_bind (wpAny_typeNameOf_itemiter hT (wpAny_pure ?_))
 refine wpAny_bind (wpAny_fieldsOf hit rfl ?_);have a1:Builtin.Dict_items.ownsTuple "dict_itemiterator"=true:=by decide
 simp only[a1,if_true];show wpAny _ _ (if (Value.ref d==Value.none)=true then _ else _) _ _ _;rw[if_neg (show¬((Value.ref d==Value.none)=true)from zt)];refine wpAny_bind (wpAny_pure ?_);refine wpAny_bind (wpAny_dictEntries a0 aT ?_);rw[if_neg (by simp)]
 refine wpAny_bind (wpAny_pure ?_);refine wpAny_bind (wpAny_dictEpoch a0 aT ?_);rw[if_neg (by simp)]
 refine wpAny_pure ?_;simp only[show¬((i:Int) < 0)from by omega,if_false,Int.toNat_natCast,zY hi]
 refine wpAny_bind ?_
 first|refine wpAny_bind (wpAny_typeNameOfWhole_itemiter hT (wpAny_pure ?_))|refine wpAny_bind (wpAny_typeNameOf_itemiter hT (wpAny_pure ?_))
 refine wpAny_bind (wpAny_isOneOf_itemiter hT ?_);show wpAny _ _ (setField (.ref it) 3 (rawInt ((i:Int)+1)) >>=_) _ _ ⟨hp,g,dr,tk,os⟩;refine wpAny_bind (wpAny_setField_rec hit (by simp) fun v n p=>?_)
 replace p:Heap.SameBut it hp v:=p
 replace n:IiAt v it d (i+1) es.size ep f0 f ok ov:=by
  have e:((i+1:Nat):Int)=(i:Int)+1:=by omega
  unfold IiAt;rw[e];simpa [rawInt]using n
 have aA:Shared.TypeIs ⟨v,g,dr,tk,os⟩ (.ref it) "dict_itemiterator":=Y3 _ n rfl;refine wpAny_bind (wpAny_holding ?_);refine wpAny_bind (wpAny_isOneOf_itemiter aA ?_);refine wpAny_bind (wpAny_isOneOf_itemiter aA ?_);show wpAny _ _ (Builtin.Dict_items.pairFromOwner (.ref it) 6 es[i].key es[i].val) _ _ ⟨v,g,dr,tk,os⟩;unfold Builtin.Dict_items.pairFromOwner;refine wpAny_bind (wpAny_newTuple ?_);have c:IiAt (v.push {cls:= .type "tuple",data:= .seq #[es[i].key,es[i].val]}) it d (i+1) es.size ep f0 f ok ov:=Heap.get?_push_of_some _ n;generalize t:v.push {cls:= .type "tuple",data:= .seq #[es[i].key,es[i].val]} =q at c;have u:v.objs.size=hp.objs.size:=p.1;have a3:it < hp.objs.size:=Heap.lt_size hit;have a6:q.get? hp.objs.size=some {cls:= .type "tuple",data:= .seq #[es[i].key,es[i].val]}:=by rw[<-t,<-u];exact Heap.get?_push_size _ rfl
 have a5:q.objs.size=hp.objs.size+1:=by rw[<-t,Heap.size_push,u]
 have a4:∀b o,b≠it->hp.get? b=some o->q.get? b=some o:=fun b o hb e=>by rw[<-t];exact Heap.get?_push_of_some _ (p.extBut b o hb e)
 show wpAny _ _ (Builtin.Dict_items.ownedTupleIsFree (.ref it) >>=_) _ _ ⟨q,g,dr,tk,os⟩;rw[u];clear t n p aA u v
 have fin:∀k:Heap,Ii k it d (i+1) es.size ep->Heap.SameBut it q k->Q (some (.ref hp.objs.size)) ⟨k,g,dr,tk,os⟩:=fun k j h=>
  hQ k j (h.extBut _ _ (Nat.ne_of_gt a3) a6) (by show k.objs.size=hp.objs.size+1;rw[h.1,a5]) fun b o hb e=>h.extBut b o hb (a4 b o hb e)
 have put:∀m:Heap,IiAt m it d (i+1) es.size ep f0 f ok ov->Heap.SameBut it q m->∀ {B:Around} {Φ:Value->Shared->Prop} {E':Value->Shared->Prop},(∀l,Ii l it d (i+1) es.size ep->Heap.SameBut it q l->Φ (.ref hp.objs.size) ⟨l,g,dr,tk,os⟩)->
  wpAny (model prog w) B (do
   let x<-field (.ref it) 6
   let y<-field (.ref it) (6+1)
   setField (.ref it) 6 es[i].key
   setField (.ref it) (6+1) es[i].val
   setField (.ref it) 0 (rawInt (hp.objs.size:Nat))
   setField (.ref it) 1 (.bool false)
   letGo [x,y] [.ref hp.objs.size]
   pure (Value.ref hp.objs.size)) Φ E' ⟨m,g,dr,tk,os⟩:=by
  intro m c sb B Φ E' fin;refine wpAny_bind (wpAny_field c rfl (x:=ok) rfl ?_);refine wpAny_bind (wpAny_field c rfl (x:=ov) rfl ?_);refine wpAny_bind (wpAny_setField_rec c (by simp) fun k j h=>?_)
  replace h:Heap.SameBut it m k:=h
  replace j:IiAt k it d (i+1) es.size ep f0 f es[i].key ov:=j
  refine wpAny_bind (wpAny_setField_rec j (by simp) fun h₄ ao ai=>?_)
  replace ai:Heap.SameBut it k h₄:=ai
  replace ao:IiAt h₄ it d (i+1) es.size ep f0 f es[i].key es[i].val:=ao
  refine wpAny_bind (wpAny_setField_rec ao (by simp) fun h₅ aC aB=>?_)
  replace aB:Heap.SameBut it h₄ h₅:=aB
  replace aC:IiAt h₅ it d (i+1) es.size ep (rawInt (hp.objs.size:Nat)) f es[i].key es[i].val:=aC
  refine wpAny_bind (wpAny_setField_rec aC (by simp) fun l z au=>?_)
  replace au:Heap.SameBut it h₅ l:=au
  replace z:IiAt l it d (i+1) es.size ep (rawInt (hp.objs.size:Nat)) false es[i].key es[i].val:=z
  exact wpAny_bind (wpAny_letGo (wpAny_pure (fin l (Y6 _ _ _ _ ⟨z,.inr ⟨_,rfl⟩⟩) (sb.trans (h.trans (ai.trans (aB.trans au)))))))
 refine wpAny_bind ?_;unfold Builtin.Dict_items.ownedTupleIsFree;rcases a2 with rfl|⟨a,rfl⟩
 . refine wpAny_bind (wpAny_field c rfl (x:= .none) rfl (wpAny_pure ?_));simp only[if_true];exact put q c (Heap.SameBut.refl _ _) fun l i6 s6=>wpAny_pure (Y3 _ rfl (wpAny_pure (fin l i6 s6)))
 . refine wpAny_bind (wpAny_field c rfl (x:=rawInt a) rfl ?_);show wpAny _ _ (loadIfAlive ((a:Int).toNat) >>=_) _ _ _;refine wpAny_bind (pL fun r=>?_)
   cases r with
   |none=>
    simp only[Option.isNone_none,if_true];refine wpAny_pure ?_;simp only[if_true];exact put q c (Heap.SameBut.refl _ _) fun l i6 s6=>wpAny_pure (Y3 _ rfl (wpAny_pure (fin l i6 s6)))
   |some o=>
    simp only[Option.isNone_some,Ak,if_false];refine wpAny_bind (wpAny_field c rfl (x:= .bool f) rfl ?_)
    cases f with
    |true=>
     rw[if_neg (show¬((Value.bool true !=Value.bool true)=true)from zt)];refine wpAny_pure ?_;simp only[Ak,if_false];exact wpAny_pure (wpAny_pure (Y3 _ rfl (wpAny_pure (fin q (Y6 _ _ _ _ ⟨c,.inr ⟨_,rfl⟩⟩) (Heap.SameBut.refl _ _)))))
    |false=>
     rw[if_pos (show(Value.bool false !=Value.bool true)=true from rfl)];refine wpAny_bind (wpAny_setField_rec c (by simp) fun k j h=>?_)
     replace h:Heap.SameBut it q k:=h
     replace j:IiAt k it d (i+1) es.size ep (rawInt a) true ok ov:=j
     refine wpAny_pure ?_;simp only[Ak,if_false];exact wpAny_pure (wpAny_pure (Y3 _ rfl (wpAny_pure (fin k (Y6 _ _ _ _ ⟨j,.inr ⟨_,rfl⟩⟩) h))))
theorem pe(hh:A.handled=none)(hit:Ii s.heap it d i es.size ep)(hm:RawD s.heap d es ep)(hi:es.size<=i)(hQ:∀h',Heap.ExtBut it s.heap h'->Q none {s with heap:=h'}):wpAny (model prog w) A (pyNext (.ref it)) Q E s:=by
 obtain⟨f0,f,ok,ov,hit,j⟩:=hit;obtain⟨l,h,k,e⟩:=id hm;have c:s.TypeIs (.ref it) "dict_itemiterator":=Y3 _ hit rfl;unfold pyNext
 refine wpAny_bind (wpAny_attempt (wpAny_callSpecial?_slot (name:=Str.ofString "__next__") c F.slot_dict_itemiterator_next
  (wpAny_call_entry F.slot_dict_itemiterator_next c F.entry_dict_itemiterator_next ?_ (F.args_dict_itemiterator_next_1 _))))
 refine wpAny_bind (wpAny_pure ?_);refine wpAny_bind ?_;refine wpAny_bind ?_
 first|refine wpAny_bind (wpAny_typeNameOfWhole_itemiter c (wpAny_pure ?_))|refine wpAny_bind (wpAny_typeNameOf_itemiter c (wpAny_pure ?_))
 refine wpAny_bind (wpAny_fieldsOf hit rfl ?_);have g:Builtin.Dict_items.ownsTuple "dict_itemiterator"=true:=by decide
 simp only[g,if_true];show wpAny _ _ (if (Value.ref d==Value.none)=true then _ else _) _ _ s;rw[if_neg (show¬((Value.ref d==Value.none)=true)from zt)];refine wpAny_bind (wpAny_pure ?_);refine wpAny_bind (wpAny_dictEntries h e ?_);rw[if_neg (by simp)]
 refine wpAny_bind (wpAny_pure ?_);refine wpAny_bind (wpAny_dictEpoch h e ?_);rw[if_neg (by simp)]
 refine wpAny_pure ?_;simp only[show¬((i:Int) < 0)from by omega,if_false,Int.toNat_natCast,Array.getElem?_eq_none hi]
 refine wpAny_bind ?_
 first|refine wpAny_bind (wpAny_typeNameOfWhole_itemiter c (wpAny_pure ?_))|refine wpAny_bind (wpAny_typeNameOf_itemiter c (wpAny_pure ?_))
 show wpAny _ _ (setField (.ref it) 2 .none >>=_) _ _ s;refine wpAny_bind (wpAny_setField hit rfl (by simp) ?_)
 show wpAny _ _ (newExc (.type "StopIteration") [] >>=_) _ _ _;refine wpAny_bind ?_;simp only[newExc,newTuple];refine wpAny_bind (wpAny_newObj_type ?_ (by size_fits))
 refine wpAny_bind (m:=firstArgMember _ _) (wpAny_of_eq (a:=Value.none) (by first|rfl|(simp only[firstArgMember];rfl)) ?_)
 refine wpAny_newObj_type ?_ (by size_fits)
 simp only[raiseNew];refine wpAny_bind (wpAny_handled ?_);rw[show A.in1.handled=none from hh];refine wpAny_bind (wpAny_pure (wpAny_throw ?_));refine wpAny_bind (wpAny_isInstance (T:="StopIteration") (b:=true) (Y3 _ (Heap.get?_push_size _ rfl) rfl) isSubtype_stop ?_);exact wpAny_pure (hQ _ (((Heap.SameBut.update ..).extBut.push _).push _))
theorem m4{Q:Value->Shared->Prop}(hit:Ii s.heap it d i n ep)(hQ:Q (.ref it) s):wpAny (model prog w) A (pyIter (.ref it)) Q E s:=by
 obtain⟨f0,f,ok,ov,hit,b⟩:=hit;have a:s.TypeIs (.ref it) "dict_itemiterator":=⟨_,hit,rfl⟩;refine wpAny_pyIter_slot a F.slot_dict_itemiterator_iter (wpAny_call_entry F.slot_dict_itemiterator_iter a iD ?_ (F.args_dict_itemiterator_iter_1 _));show wpAny _ _ (ret (.ref it)) _ _ s;exact wpAny_pure ⟨_,rfl,"dict_itemiterator",_,a,F.slot_dict_itemiterator_next.lookup,hQ⟩
theorem Ii.kp(x:Ii h it d i n ep)(e:∀o,h.get? it=some o->h'.get? it=some o):Ii h' it d i n ep:=by
 obtain⟨f0,f,ok,ov,b,a⟩:=x;exact⟨f0,f,ok,ov,e _ b,a⟩
def Iti(a:Addr)(o:Obj)(u:HO)(kvs:List (V×V)):It:=⟨fun i H=>H a=some (.frz o u)/\i < kvs.length,
 fun i H v H'=>∃T x y,v= .ref T/\H T=none/\H'=upd H T (.tup [x,y])/\kvs[i]?=some (x,y),fun i H=>H a=some (.frz o u)/\kvs.length<=i⟩
theorem lF(hx:o.ExactDict)(hd:o.data= .dict es ep)(hl:kvs.length=es.size)(hk:∀i (h:i < es.size),∃x y,kvs[i]?=some (x,y)/\RelV x es[i].key/\RelV y es[i].val):
 Turn P w K (.Name nm np) (Iti a o u kvs) [it] it (fun i h=>Ii h it a i es.size ep) where
 mem:=by simp
 obj:=fun i h st b hb=>by
  have e:b=it:=by simpa using hb
  subst e;obtain⟨f0,f,ok,ov,g,_⟩:=st;exact Y3 _ g (fun v z=>by cases (show Data.fields _=Data.cell v from z))
 keep:=fun i h h' st k=>st.kp fun o e=>k it (by simp) o e
 item:=by
  intro X hP hw r hc i pins s σ H E I p st hg;subst hP hw r;obtain⟨ha,hi⟩:=hg;have j:RawD s.heap a es ep:=Y8 o ((I.hok a _ ha).1) hx hd;obtain⟨x,y,hv,r1,r2⟩:=hk i (by omega)
  refine m6 st j (by omega) fun h' t ht sz up=>Y3 _ rfl ?_
  have fr:H s.heap.objs.size=none:=I.hok.fresh (yV _);have lt:∀ {c:Addr} {o:Obj},s.heap.get? c=some o->c≠s.heap.objs.size:=fun e=>zo (Heap.lt_size e)
  have ai:it≠s.heap.objs.size:=by
   obtain⟨f0,f,ok,ov,g,_⟩:=st;exact lt g
  have all:∀c o,c∉ [it]->s.heap.get? c=some o->h'.get? c=some o:=fun c o n e=>up c o (by simpa using n) e
  refine wpAny_pure (Y4 (.ref s.heap.objs.size) (upd H s.heap.objs.size (.tup [x,y])) ⟨?_,rfl,⟨_,Y7 x y rfl fr rfl hv⟩,t,fun b hb=>?_⟩)
  . refine I.call' (s':= {s with heap:=h'}) (ch:= [it]) rfl ⟨fun b o e _ _ hx=>all b o hx e,fun b o e _ _ hx=>⟨o.slots,all b o hx e⟩,fun c o e n _=>by rw[ae (lt e)];exact n,fun b o e hx=>⟨o,all b o hx e⟩,fun c zs e=>by rw[ae (ay e fr)];exact e,fun c o zs e=>by rw[ae (ay e fr)];exact e,fun c ps e=>⟨#[],by rw[ae (ay e fr),e];simp⟩⟩ ?_ I.bare fun b hb=>?_
    . intro c o e;by_cases l:c=s.heap.objs.size
      . subst l;rw[a8]at e;cases e;exact⟨by show 2<=sizeLine;decide,Y3 ([es[i].key,es[i].val]) (.cons r1 (.cons r2 .nil)) (J6 _ ht rfl _ rfl)⟩
      . rw[ae l]at e;have nb:∀c u,H c=some u->c∉ [it]:=fun c u e hz=>by rw[(p c hz).1]at e;cases e
        refine(I.hok c o e).stay (fun d v hc q=>all d v ?_ q) (fun d q=>?_) fun d m q=>?_
        . rcases hc with hz|hz
          . rw[hz];exact nb c o e
          . exact nb d _ hz
        . rw[ae (ay q fr)];exact q
        . rw[ae (ay q fr)];exact q
    . obtain⟨g0,g1,g2,g3,g4,g5⟩:=p b hb;exact⟨g3,g1,g4,g5⟩
  . have e:b=it:=by simpa using hb
    subst e;rw[ae ai];exact(p b hb).1
 done:=by
  intro X hP hw r hc i pins s σ H E I p st hg;subst hP hw r;obtain⟨ha,hi⟩:=hg;have j:RawD s.heap a es ep:=Y8 o ((I.hok a _ ha).1) hx hd;obtain⟨f0,f1,f2,f3,f4,f5⟩:=p it (by simp)
  exact pe (I.ok.hd hc) st j (by omega) fun h' eb=>⟨rfl,I.turned (t':=s.toks) (fun b o hb e=>eb b o hb e) f0 f1 f3 f4 f5⟩
 self:=fun A i s Q E st hq=>m4 st hq
theorem eC{α β:Type}{F:α->β->Prop}:∀ {l₁:List α} {l₂:List β} {i:Nat} {a:α},Paired F l₁ l₂->l₁[i]?=some a->∃b,l₂[i]?=some b/\F a b
 |_,_,i,a, .nil,h=>by simp at h
 |_,_,0,a, .cons r _,h=>by
  simp at h;subst h;exact Y3 _ rfl r
 |_,_,i+1,a, .cons _ rs,h=>by
  obtain⟨b,e,q⟩:=eC (i:=i) rs (by simpa using h)
  exact Y3 b (by simpa using e) q
noncomputable def iu(v d:Addr):HO:= .ext fun h=>h.IsItemsView v d
theorem pM(x:h.IsItemsView v d):ObjOk P w H h v (iu v d):=by
 obtain⟨o,e,r⟩:=x;exact⟨⟨o,e,r⟩,⟨_,e⟩,fun _ _ ⟨o',y,c⟩ k=>⟨o',k _ y,c⟩⟩
noncomputable def rF(P:Program)(w:World)(K:PySem.W.Frag):V->List V->Hp->VK->Prop:=fun x vs H Q=>∃a kvs,x= .ref a/\vs= []/\DJ P w K H a kvs/\∀v,H v=none->Q (.ref v) (upd H v (iu v a))
noncomputable def sU(P:Program)(w:World)(K:PySem.W.Frag)(tl:TE):TI:=fun σ H R=>tl σ H fun x H1=>∃v a kvs,x= .ref v/\H1 v=some (iu v a)/\DJ P w K H1 a kvs/\∀o,R (Iti a o (dJ P w a kvs) (kvs.map fun e=>(V.ref e.2.1,e.2.2))) (upd H1 a (.frz o (dJ P w a kvs)))
theorem oY:MtM X "dict.items" (rF X.prog X.w X.K):=by
 intro pins s σ H x vs u us Q I f rv h;obtain⟨a,kvs,rfl,rfl,d,q⟩:=h;cases f;cases rv.zero;obtain⟨z,hd,xs,c,o,es,ep,h1,h2,h3,i,g⟩:=fX I.hok I.kIn d;refine oP hd ((Y8 o h1 h2 h3):RawD s.heap a es ep) ?_;exact Y5 (.ref _) _ (I.laid (t':=s.toks) (fun b ob e=>Heap.get?_push_of_some _ e) (yV _) (pM (Y8 _ (Heap.get?_push_size _ rfl) rfl rfl))) rfl (q _ (I.hok.fresh (yV _)))
theorem oS(hl:PE X l tl):PI X (.Name nm np) l (sU X.prog X.w X.K tl):=by
 intro pins s σ H R I h;refine thn (hl pins s σ H _ I h) fun v s1 ⟨x,H1,j,r1,q1⟩=>?_;obtain⟨m,a,kvs,e,hv,d,q⟩:=q1;subst e;cases r1;obtain⟨z,hd,xs,f,o,es,ep,h1,h2,h3,p,h5⟩:=fX j.hok j.kIn d;obtain⟨c,_⟩:=(show ObjOk X.prog X.w H1 s1.heap m (iu m a)from j.hok m _ hv);have n:RawD s1.heap a es ep:=Y8 o h1 h2 h3
 have le:es.size=xs.length:=by
  have:=congrArg List.length p;simpa using this
 have kx:=Paired.length f;have t:(kvs.map fun e=>(V.ref e.2.1,e.2.2)).length=es.size:=by rw[yR,kx,le]
 refine m8 c n ?_;have k:=uU j d.at_ h1;refine O6 s1.heap.objs.size ([s1.heap.objs.size]) _ _ _ rfl (k.kept (t':=s1.toks) fun b o e=>Heap.get?_push_of_some _ e) (lF h2 h3 t (fun i hi=>?_)) (Y6 (.none) false (.none) (.none) ⟨Heap.get?_push_size _ rfl,.inl rfl⟩) (fun b hb=>?_) (q o)
 . have u:i < xs.length:=by omega
   have g:i < kvs.length:=by omega
   obtain⟨y,ey,r⟩:=eC f (yS g);refine U3 (.ref (kvs[i]).2.1) ((kvs[i]).2.2) (by rw[yW,yS g];rfl) ?_
   have e1:es[i]=entryOfKey (Tk.treeKind X.prog X.w) y:=by
    have:es.toList[i]?=(xs.map (entryOfKey (Tk.treeKind X.prog X.w)))[i]?:=by rw[p]
    rw[yW,ey,A5,zY hi]at this;exact z9 this
   rw[e1,r.2.1];exact⟨rfl,r.2.2⟩
 . have e:b=s1.heap.objs.size:=by simpa using hb
   subst e;exact k.fpOk (yV _) (k.hok.fresh (yV _))
theorem rQ(hP:X.prog=P)(hw:X.w=w)(hK:X.K=K)(hl:PE X l tl):PI X (.Name nm np) l (sU P w K tl):=by
 subst hP hw hK;exact oS hl
noncomputable def ue(P:Program)(w:World)(K:PySem.W.Frag)(td:TE):TE:=fun σ H Q=>td σ H fun x H1=>rF P w K x [] H1 Q
theorem oT{o:Expr}(hP:X.prog=P)(hw:X.w=w)(hK:X.K=K)(ho:PE X o td)(hbase:attributeBase o "items" X.env (eval o X.env)=eval o X.env:=by rfl)(hline:(apos.endLine==cpos.line)=true:=by rfl):PE X (.Call (.Attribute o "items" apos) [] [] cpos) (ue P w K td):=by
 subst hP hw hK;intro pins s σ H Q I h;refine wpAny_Call_method0_late hbase hline (thn (ho pins s σ H _ I h) fun v s1 ⟨x,H1,e,r1,f⟩=>?_);obtain⟨a,kvs,rfl,_,d,q⟩:=id f;cases r1
 have c:s1.TypeIs (.ref a) "dict"/\∀b,Value.ref a= .ref b->∃ob,s1.heap.get? b=some ob/\ob.dict=none:=by
  obtain⟨_,_,xs,_,dd⟩:=fX e.hok e.kIn d;refine⟨dd.typeIs,fun b q=>?_⟩;cases q;obtain⟨ob,_,_,h1,h2,_⟩:=dd;exact Y3 ob h1 h2.2.1
 exact Y4 ("dict") ("dict.items") ⟨PySem.F.plainAttrs_dict,PySem.F.slot_dict_items,PySem.F.type_dict_items,c.1,c.2,Calls.callWith_builtin rfl (PySem.evalArgs_none (oY pins s1 σ H1 (.ref a) [] _ [] Q e rfl .nil f))⟩
theorem kX{Q:VK}(Pv:Nat->List V->Hp->Prop)(h0:Pv 0 [] (upd H1 D (.lst [])))(hl:∀i acc H,Pv i acc H->H a=some (.frz o u))(hs:∀i T x y acc H,i < kvs.length->kvs[i]?=some (x,y)->Pv i acc H->H T=none->tc (some (.ref T)::rest) (upd H T (.tup [x,y])) fun b H5=>if b=true then te (some (.ref T)::rest) H5 (CompN kvs.length i D acc Pv)else CompS kvs.length i acc Pv H5)(hd:∀acc H,Pv kvs.length acc H->Q (.ref D) H):jT (Iti a o u kvs) D tc te rest Q H1:=by
 refine Y3 (fun i m acc H=>m=kvs.length - i/\i<=kvs.length/\Pv i acc H) (Y8 kvs.length (by simp) (zc _) h0) ?_
 rintro i m acc H ⟨rfl,hi,p⟩;by_cases c:i < kvs.length
 . refine .inr ⟨⟨hl i acc H p,c⟩,fun x H' y=>⟨ext1,?_⟩⟩;obtain⟨T,g,h,rfl,d,rfl,f⟩:=y;exact hs i T g h acc _ c f p d
 . have e:i=kvs.length:=by omega
   subst e;exact .inl ⟨⟨hl _ acc H p,yV _⟩,hd acc H p⟩
end Dj
namespace Dj
open PySem L2 Tre Wd Su
theorem Sd.canP{ds qs:List Pq}{ks:List Tr}{g:Tr->Fr}(h:Sd ds ks g)(nd:ks.Nodup)(ty:∀t∈ks,Ty .tm t)(pm:qs.Perm (outP g ks))(hr:∀(i j:Nat) (p q:Pq),i<=j->qs[i]?=some p->qs[j]?=some q->ltT (prT q) (prT p)=false):Can ds qs:=by
 have a:∀p∈qs,p.1∈ks/\p.2=g p.1/\(g p.1).1≠0:=fun p m=>by
  have m:=pm.mem_iff.mp m;unfold outP at m;obtain⟨t,l,rfl⟩:=zr.mp m;obtain⟨m1,f⟩:=zC.mp l;exact⟨m1,rfl,by simpa using f⟩
 have c:(qs.map (·.1)).Nodup:=by
  rw[(pm.map (·.1)).nodup_iff];unfold outP;rw[Aj];show(List.map (fun t=>t) (ks.filter _)).Nodup;rw[List.map_id'];exact nd.filter _
 refine⟨?_,fun p m=>?_,fun t=>?_⟩
 . unfold Asc;rw[A7];intro i j hi b d;have le:=nY (hr i j _ _ (by omega) (yS hi) (yS b))
   refine vG le ?_
   cases q:eqT (qs[i]).1 (qs[j]).1 with
   |false=>rfl
   |true=>
    have e:=vk (ty _ (a _ (zJ hi)).1) (ty _ (a _ (zJ b)).1) q;have n:=Ag.mp c;rw[A7]at n;exact absurd (by rw[List.getElem_map,List.getElem_map];exact e) (n i j (by rw[yR];exact hi) (by rw[yR];exact b) d)
 . obtain⟨m1,f,k⟩:=a p m;rw[f];exact⟨h.sh _ m1,fun z=>k (by rw[z];rfl)⟩
 . rw[pU pm,mO g t nd h.sh,h.eq]
end Dj
namespace L2
open PySem PySem.Spec PyProof.Rows
theorem oG{r:R2}{tb:TE}{Q:Bool->Hp->Prop}(h:te σ H fun v H1=>r2 [v] H1 fun x H2=>r1 [x] H2 fun y H3=>tb σ H3 fun z H4=>r y z H4 fun u H5=>∃k,u= .bl k/\Q k H5):vp (tOp r (tCB r1 (cg (tCB r2 (cg te tNil)) tNil)) tb) σ H Q:=h
def rIsT:List V->Hp->VK->Prop:=fun xs H Q=>∃a vs,xs= [.ref a, .ty "tuple"]/\H a=some (.tup vs)/\Q (.bl true) H
theorem tO:cj X (.builtin "isinstance") rIsT:=by
 intro pins s σ H xs us Q I r h;obtain⟨a,vs,e,f,q⟩:=h;subst e
 cases r with
 |cons d r=>
  cases r with
  |cons c r=>
   cases r;cases d;cases c;obtain⟨_,_,_,o,h1,h2,_⟩:=I.hok a _ f;exact PySem.W.kia_one PySem.W.kitx_tuple I.kIn (Y3 o h1 h2) (b:=true) (by kernel_rfl) (fun z=>nomatch z) fun tk=>Y5 (.bl true) H (I.tok tk) rfl q
end L2
namespace K46
open PySem L2 Mth Tre Wd Su Dj
theorem pQ{n:Nat}:∀ {ts:List Tr},(∀t∈ts,t.pure/\t.depth<=n)->Trs.pure ts/\Trs.depth ts<=n
 | [],_=>⟨by unfold Trs.pure;trivial,by unfold Trs.depth;omega⟩
 |t::ts,h=>by
  obtain⟨a,b⟩:=pQ fun u m=>h u (yU _ m);obtain⟨c,d⟩:=h t yT;refine⟨?_,?_⟩
  . unfold Trs.pure;exact⟨c,a⟩
  . unfold Trs.depth;omega
variable{N:Int}{p pz p3 pA pB po:List Pq}{us:List Tr}{t0 t1 t2 t3:Tr}{F:Tr->Int}{T:Wg.Tb}
theorem yM{p:Fr}(h:Sh p):(!decide (p.1=0/\p.2=1))=decide (p.1≠0):=by
 by_cases z:p.1=0
 . have:p=zero:=by
    refine(vC h).mp ?_;unfold rv;rw[z];have:((0:Int):Rat)=0:=by simp
    rw[this];grind
   rw[this];rfl
 . simp[z]
structure Ds (P:Program) (w:World) (K:PySem.W.Frag) (H:Hp) (D:Addr) (ds:List Pq) (E1:Nat) (keys:List Tr) (g:Tr->Fr):Prop where
 da:DAt P w K H D keys g
 sd:Sd ds keys g
 gf:∀t∈keys,Gf (1+Su.cnt t ds*E1) (g t)
 len:keys.length<=ds.length
theorem Ds.same{H H':Hp}{D:Addr}{ds:List Pq}{E1:Nat}{keys:List Tr}{g:Tr->Fr}(s:Same H H')(h:Ds P w K H D ds E1 keys g):Ds P w K H' D ds E1 keys g:=⟨h.da.same s,h.sd,h.gf,h.len⟩
structure Told (P:Program) (w:World) (K:PySem.W.Frag) (H:Hp) (r:Addr) (bs:List Bnd) (as:List Pq) (vf:Fr) (reached:Bool) (us:List Tr) (G:Tr->Fr) (wk:List Wt):Prop where
 at_:∃rf l d wv,H r=some (.tup [.str (Str.ofString "highest"), .ref rf, .ref l, .ref d, .bl reached])/\H rf=some (.tup [.int vf.1, .int vf.2])/\H l=some (.lst wv)/\TrsAt H wv (wk.map wtT)/\DAt P w K H d us G
 u4:us.length<=4
 w4:wk.length<=4
 asc:wk.Pairwise fun a b=>a.1 < b.1
 lt:∀k∈wk,k.1 < bs.length
 sh:∀k∈wk,Sh k.2/\Gf 160 k.2/\0 < k.2.1
 tot:∀t,tot t (aZ (bs.map ofB) wk)=tot t as
 val:totR (bs.map ofB) wk=rv vf
 g:∀t∈us,Gf 160 (G t)
 gb:∀b∈bs,Gb us 8 (ofB b)
 met:∀b∈bs,lin (gw us G) b.ps<=rv b.lim
 st:reached=true->∀b∈bs,b.st=false
 o:lin (gw us G) as=rv vf
 as_:Asc as/\∀p∈as,Gq 8 p/\p.1∈us/\p.2≠zero
 vf_:Sh vf/\Gf 160 vf
def lO(P:Program)(w:World)(K:PySem.W.Frag):Sp:=fun vs H Q _=>∃(lb r rv':Addr) (va:V) (xs:List V) (bs:List Bnd) (as:List Pq) (vf:Fr) (reached:Bool) (us:List Tr) (G:Tr->Fr) (wk:List Wt),vs= [.ref lb,va, .ref r, .ref rv', .bl reached]/\H lb=some (.lst xs)/\TrsAt H xs (bs.map bdT)/\bs.length<=8/\TrAt H va (sumT as)/\H rv'=some (.tup [.int vf.1, .int vf.2])/\Told P w K H r bs as vf reached us G wk/\∀H',Same H H'->Q (.bl true) H'
noncomputable def nGo:List Str:= ["_law_bounds_here","_law_asked","_law_found","_law_value_here","_law_reached","_law_shares","_law_total","_law_k","_law_place","_law_weight","_law_term","_law_share","_law_whole_here","_law_most","_law_strict","_law_one","_law_over"]
abbrev sgo(lb:Addr)(va:V)(r rv':Addr)(b:Bool)(x5 x6 x7 x8 x9 x10 x11 x12 x13 x14 x15 x16:Option V):L2.St:= [some (.ref lb),some va,some (.ref r),some (.ref rv'),some (.bl b),x5,x6,x7,x8,x9,x10,x11,x12,x13,x14,x15,x16]
theorem scGo:FnScope nGo ["_law_bounds_here","_law_asked","_law_found","_law_value_here","_law_reached"] (af rl):= .of
open Classical in
theorem uD(F:Fun K "_law_good" "_law_good" rl f fd)(B:Blt mg)(zV:Cl P w K mg base 3 "_law_value" ["_law_whole_here","_law_numbers"] (qJ P w K))(zT:Cl P w K mg base 2 "_law_times" ["_law_one","_law_other"] eV)(zP:Cl P w K mg base 2 "_law_plus" ["_law_one","_law_other"] gg):FnOk P w K mg base CX0 4 f fd ["_law_bounds_here","_law_asked","_law_found","_law_value_here","_law_reached"] (lO P w K):=by
 refine F.okb scGo fun vs H Q E h=>?_;refine hZq fun q_ e_=>?_;obtain⟨lb,r,rv',va,xs,bs,as,vf,reached,us,G,wk,rfl,hl,hT,b8,eT,ea,ai,k⟩:=h;subst e_;refine⟨rfl,fun lI A outer s hr=>?_⟩;have fo:Room 3 _:=hr;have bP:Room 2 _:=hr.mono (by decide)
 have bF:=hr.units;have bY:=zk (Ah (show 1<=64 by decide) _) bF
 have dV:=zk (Ah (show 30<=64 by decide) _) bF
 have gr:=zk (Ah (show 50<=64 by decide) _) bF
 have gs:=zk (Ah (show 60<=64 by decide) _) bF
 have nd:=scGo.nd;have h7:(["_law_one"]:List Str).Nodup:=by decide +kernel
 refine Y3 _ (ac (bS (PW.pt (eW (jo (cC (aG (r:=rIsT) tO rfl B.isi g8 (a7 (pv 2) (a7 (uy (v:= .ty "tuple") rfl B.tu PyProof.Rows.boot_tuple rfl) a9)))))
  (eW (aw iM (aq aL (pv 2) ad fun _ _=>rfl) eh (aE _)) (eW (aw (r:=rNeP K) (js bY) (aq aL (pv 2) ad fun _ _=>rfl) (pv 3) (aE _)) (dY (aw iM (aq aL (pv 2) ad fun _ _=>rfl) (pv 4) (aE _))))))) (ag (aD cV)) aS)
  (ac (psA 5 nd (uv (P:=P) (w:=w) rfl rfl))
  (ac (psA 6 nd (aX (a7 ad (a7 ad a9))))
  (ac (bV PassesOwn.never rfl (cB rfl B.ra (a7 (aG ar rfl B.le PySem.boot_len (a7 (aq aL (pv 2) ad fun _ _=>rfl) a9)) a9)) (pgA 7 nd)
   (ac (dZ (aq am (aq aL (pv 2) ad fun _ _=>rfl) (pv 7) fun _ _=>rfl) (ba (n:=2) rfl (aj (pgA 8 nd) (aj (pgA 9 nd) aQ))))
   (ac (bS (PW.pt (eW (aw km (aq aL (pv 9) ad fun _ _=>rfl) ad (aE _)) (dY (PW.pt (fz (aw dA (pv 7) ad (aE _)) (eX (aw yw (aq aL (aq am (aq aL (pv 2) ad fun _ _=>rfl) (av lU (pv 7) ad) fun _ _=>rfl) ad fun _ _=>rfl) (pv 8) (aE _)))))))) (ag (aD cV)) aS)
   (ac (bV PassesOwn.never rfl (fA (aq aL (aq am (pv 0) (pv 8) fun _ _=>rfl) ad fun _ _=>rfl)) (ba rfl (aj (pgA 10 nd) (aj (pgA 11 nd) aQ)))
    (ag (ur (P:=P) (w:=w) (K:=K) rfl rfl rfl dV (pv 5) (pv 10) (ak zP bP (a7 (ux (P:=P) (w:=w) (K:=K) rfl rfl rfl dV (pv 5) (pv 10) (aX (a7 ad (a7 ad a9))) ⟨rfl,rfl,rfl,rfl⟩) (a7 (ak zT bP (a7 (pv 11) (a7 (pv 9) a9))) a9))) rfl)))
   (ag (psA 6 nd (ak zP bP (a7 (pv 6) (a7 (ak zT bP (a7 (aq aL (aq am (pv 0) (pv 8) fun _ _=>rfl) ad fun _ _=>rfl) (a7 (pv 9) a9))) a9)))))))))
  (ac (bS (PW.pt (eW (aw (r:=rNeP K) (js bY) (pv 6) (pv 3) (aE _)) (dY (aw (wg gr) (bO dU rfl B.tu PyProof.Rows.boot_tuple (a7 (aG (call_sT gs) rfl B.so PyProof.Rows.boot_sorted (a7
   (aY (NC:= ["_law_one"]) (mp:= [none]) rfl (rQ (P:=P) (w:=w) (K:=K) rfl rfl rfl (oT (P:=P) (w:=w) (K:=K) rfl rfl rfl (pv 5))) (fun _ _ _ _ _=>pgA 0 h7)
    (fun _ _ _ _ _=>cp (aw (r:=rNeP K) (js bY) (aq (r:=rIxT K) aL (pv 0) ad fun _ _=>rfl) (aX (a7 ad (a7 ad a9))) (aE _)))
    (fun _ _ _ _ _=>pv 0)) a9)) a9)) (pv 1) (aE _))))) (ag (aD cV)) aS)
  (ac (bV PassesOwn.never rfl (bn (pv 0)) (ba rfl (aj (pgA 12 nd) (aj (pgA 13 nd) (aj (pgA 14 nd) aQ))))
   (ac (psA 15 nd (ak zV fo (a7 (pv 12) (a7 (aq aL (pv 2) ad fun _ _=>rfl) a9))))
   (ac (psA 16 nd (av lU (av aR (aq aL (pv 15) ad fun _ _=>rfl) (aq aL (pv 13) ad fun _ _=>rfl)) (av aR (aq aL (pv 13) ad fun _ _=>rfl) (aq aL (pv 15) ad fun _ _=>rfl))))
   (ag (bS (PW.pt (eW (aw dA (pv 16) ad (aE _)) (dY (PW.pt (fz (aw fO (pv 16) ad (aE _)) (fz (cC (pv 14)) (eX (cC (pv 4))))))))) (ag (aD cV)) aS)))))
  (ag (aD (gj (wo bY) (ak zV fo (a7 (pv 1) (a7 (aq aL (pv 2) ad fun _ _=>rfl) a9))) (pv 3) (aE _)))))))))) ?_
 have lp:(20000:Nat)<=sizeLine:=by decide +kernel
 refine hZq fun q_ e_=>?_;obtain⟨rf,l,d,wv,a1,j2,d8,hW,hR⟩:=ai.at_;subst e_;have u4:=ai.u4;have w4:=ai.w4;have wl:=hW.len;rw[yR]at wl;have j1:=hT.len;rw[yR]at j1
 have b7:∀b∈bs.map ofB,Gb us 8 b:=fun b m=>by
  obtain⟨x,mx,rfl⟩:=zr.mp m;exact ai.gb x mx
 have fM:∀b∈bs,b.ps.length<=4:=fun b m=>z7 (Su.asc_len (ai.gb b m).asc (ai.gb b m).mem) u4;have l3:as.length<=4:=z7 (Su.asc_len ai.as_.1 fun p m=>(ai.as_.2 p m).2.1) u4;refine U9 _ rfl r _ rfl a1 (Y3 _ rfl ?_);refine iteF ?_;refine Y2 _ rfl r _ 0 _ ⟨rfl,rfl,SqT.of a1,rfl,rfl,Y3 _ rfl ?_⟩;refine ite2 (fun c=>absurd c (by simp)) fun _=>?_
 refine U2 _ rfl r _ 1 (.ref rf) rfl rfl (SqT.of a1) rfl (Y3 _ rfl (O7 rf rv' vf.1 vf.2 vf.1 vf.2 rfl rfl (SqT.of j2) (SqT.of ea) (Y3 _ rfl ?_)));refine ite2 (fun c=>absurd c (by simp)) fun _=>?_
 refine U2 _ rfl r _ 4 (.bl reached) rfl rfl (SqT.of a1) rfl (O5 _ rfl rfl _ rfl ?_);refine ite2 (fun c=>absurd c (by simp)) fun _=>fk ?_
 intro D nD;have s1:=aa (o:=Dj.dJ P w D []) nD;have d0:Dj.DAt P w K (upd H D (Dj.dJ P w D [])) D [] (fun _=>zero):=⟨(Y3 ([]) ⟨a8,fun p m=>(by cases m)⟩ (.nil)),fun t m=>(by cases m),List.nodup_nil⟩
 generalize upd H D (Dj.dJ P w D [])=H1 at s1 d0 ⊢;refine ah ?_
 try dsimp only
 refine⟨two,fun z0 hV=>?_⟩;have f3:=aa (o:= .tup [.int 0, .int 1]) hV;have hE:=a8 (H:=H1) (a:=z0) (o:= .tup [.int 0, .int 1]);have d1:=d0.same f3;have s2:=s1.trans f3;generalize upd H1 z0 (.tup [.int 0, .int 1])=H2 at s2 d1 hE ⊢;refine ah ?_
 try dsimp only
 refine O8 _ rfl r _ 2 (.ref l) rfl rfl (SqT.of (s2 _ _ a1)) rfl l wv rfl (.inl (SqL.of (s2 _ _ d8))) (wv.length:Int) rfl ⟨by omega,by omega,?_⟩
 rw[show((wv.length:Int)).toNat=wk.length by omega]
 refine fH (n:=wk.length) (fun i σ H'=>Same H H'/\∃(keys:List Tr) (g:Tr->Fr) (rt:Addr) (tt:Fr) (v7 v8 v9 aB aA:Option V),σ=sgo lb va r rv' reached (some (.ref D)) (some (.ref rt)) v7 v8 v9 aB aA none none none none none/\Ds P w K H' D (aZ (bs.map ofB) (wk.take i)) 169 keys g/\H' rt=some (.tup [.int tt.1, .int tt.2])/\Sh tt/\Gf (1+i*169) tt/\rv tt=totR (bs.map ofB) (wk.take i))
  ⟨s2,Y6 ([]) _ z0 zero (O6 none none none none none rfl ⟨d1,by rw[Aa];exact Sd.nil _,(fun t m=>by cases m),zc _⟩ hE gi (jE (by omega)) (by rw[Aa];exact rv_zero))⟩ ?_ ?_
 . intro i σ H3 hi z_;refine hZq fun q_ e_=>?_;obtain⟨s3,keys,g,rt,tt,v7,v8,v9,aB,aA,rfl,ao,aT,d2,fb,bI⟩:=z_;subst e_;rw[Ax];refine ah ?_
   try dsimp only
   have ek:wk[i]?=some wk[i]:=yS hi;refine hZq fun q_ e_=>?_;obtain⟨x,ex,hx⟩:=hW.get (i:=i) (t:=wtT wk[i]) (by rw[yW,ek];rfl)
   have mk:=z5 ek;have er:=ai.lt _ mk;obtain⟨d7,gk,hG⟩:=ai.sh _ mk
   have a2:0 < i->∃q:Wt,wk[i - 1]?=some q/\q.1 < wk[i].1:=fun h0=>by
    have:=A7.mp ai.asc (i - 1) i (by omega) hi (by omega)
    exact Y3 (wk[i - 1]) (yS (by omega)) this
   have eg:=aH ek;generalize wk[i]=kk at ek hx mk er hG d7 gk a2 eg;obtain⟨pl,fr⟩:=kk;dsimp only at er hG d7 gk a2;obtain⟨r1,x1,y1,rfl,k4,hB,i6⟩:=cq hx;obtain⟨bv,rfl,bb⟩:=cG i6;unfold TrAt at hB;subst hB;have eb:bs[pl]?=some bs[pl]:=yS er;have ew:=jS eb;obtain⟨xb,fB,eM⟩:=hT.get (i:=pl) (t:=bdT bs[pl]) (by rw[yW,eb];rfl)
   have mb:=z5 eb;have gB:=ai.gb _ mb;have hI:=fM _ mb;generalize bs[pl]=b at eb ew eM gB hI mb;obtain⟨rb,xw,xm,kC,rfl,g1,el,d5,ee⟩:=eP eM;obtain⟨au,ys,rfl,hD,fv⟩:=at_t el;obtain⟨rm,rfl,d6⟩:=cG d5;subst e_;have yl:=fv.len;rw[yR]at yl;refine U2 _ rfl r _ 2 (.ref l) rfl rfl (SqT.of (s3 _ _ a1)) rfl (U2 _ rfl l wv (i:Int) (.ref r1) rfl rfl (SqL.of (s3 _ _ d8)) (ax ex) ?_);refine O3 r1 _ rfl (SqT.of (s3 _ _ k4)) rfl _ _ rfl _ _ rfl rfl ?_
   try dsimp only
   refine ck (fun σ' H'=>σ'=sgo lb va r rv' reached (some (.ref D)) (some (.ref rt)) (some (.int (i:Int))) (some (.int (pl:Int))) (some (.ref bv)) aB aA none none none none none/\H'=H3) ?_ fun nx hC=>?_;rotate_left
   . refine O8 _ rfl bv _ 0 (.int fr.1) rfl rfl (SqT.of (s3 _ _ bb)) rfl fr.1 1 rfl rfl _ rfl ?_;refine ite2 (fun c=>absurd (of_decide_eq_true c) (by omega)) fun _=>?_
     refine U9 _ rfl (i:Int) 0 rfl rfl (Y3 _ rfl ?_);refine ite2 (fun c=>?_) fun _=>iteF (hC _ _ ⟨rfl,rfl⟩);have i0:=of_decide_eq_true c;refine hZq fun q_ e_=>?_;obtain⟨⟨pq,fq⟩,eq,lq⟩:=a2 (by omega)
     obtain⟨x',ex',hx'⟩:=hW.get (i:=i - 1) (t:=wtT (pq,fq)) (by rw[yW,eq];rfl)
     obtain⟨r2,l0,l5,rfl,f4,dn,ll⟩:=cq hx';subst e_;unfold TrAt at dn;subst dn;refine U2 _ rfl r _ 2 (.ref l) rfl rfl (SqT.of (s3 _ _ a1)) rfl (U9 _ rfl _ 1 rfl rfl (O9 l wv ((i:Int) - 1) (.ref r2) rfl rfl (SqL.of (s3 _ _ d8)) (by rw[show(i:Int) - 1=((i - 1:Nat):Int)by omega];exact ax ex') (O9 r2 _ 0 (.int (pq:Int)) rfl rfl (SqT.of (s3 _ _ f4)) rfl (U9 _ rfl _ _ rfl rfl (Y3 _ rfl ?_)))))
     refine ite2 (fun c=>absurd (of_decide_eq_true c) (by dsimp only at lq;omega)) fun _=>hC _ _ ⟨rfl,rfl⟩
   rintro σ' H' ⟨rfl,rfl⟩;have hH:∀k∈wk.take i,k.1 < (bs.map ofB).length:=fun k m=>by rw[yR];exact ai.lt k (List.mem_of_mem_take m)
   have fl:=i9 b7 hH;rw[zv]at fl;have hM:(min i wk.length)*us.length<=4*4:=AB (by omega) u4
   have c8:∀(t:Tr) (j:Nat),Su.cnt t (aZ (bs.map ofB) (wk.take i)++(b.ps.take j).map (scale fr))<=5:=fun t j=>by
    have h1:=ic b7 t hH;rw[zv]at h1;have h2:=jP (t:=t) (us:=b.ps.take j) (List.Pairwise.sublist (List.take_sublist _ _) gB.asc);rw[gC,jO (f:=scale fr) fun _=>rfl];omega
   have b8:∀c:Nat,c<=5->1+c*169<=8000:=fun c hc=>by omega
   refine O2 _ rfl _ rfl lb xs (pl:Int) (.ref rb) rfl rfl (SqL.of (s3 _ _ hl)) (ax fB) (O9 rb _ 0 (.ref au) rfl rfl (SqT.of (s3 _ _ g1)) rfl (Y8 au rfl ⟨_,SqT.of (s3 _ _ hD)⟩ ?_))
   refine jF (xs:=ys) (fun q σ H'=>Same H H'/\∃(keys:List Tr) (g:Tr->Fr) (aB aA:Option V),σ=sgo lb va r rv' reached (some (.ref D)) (some (.ref rt)) (some (.int (i:Int))) (some (.int (pl:Int))) (some (.ref bv)) aB aA none none none none none/\Ds P w K H' D (aZ (bs.map ofB) (wk.take i)++(b.ps.take q).map (scale fr)) 169 keys g/\H' rt=some (.tup [.int tt.1, .int tt.2]))
    ⟨s3,keys,J2 g aB aA rfl (by rw[Aa,List.map_nil,Aw];exact ao) aT⟩ (fun i σ H' _ p=>SqT.of (p.1 _ _ hD)) ?_ ?_
   . clear ao keys g aB aA v7 v8 v9 aT s3;intro j x σ H2 ex2 z_;refine hZq fun q_ e_=>?_;obtain⟨sH,keys,g,aB,aA,rfl,ao,aT⟩:=z_;obtain⟨t',hF,kn⟩:=fv.get' ex2;rw[yW]at hF;obtain⟨⟨tm,sf⟩,eq,rfl⟩:=za.mp hF;have gu:=gB.gq _ (z5 eq);have lC:j < b.ps.length:=(yZ.mp eq).1;obtain⟨T',xt,xf,rfl,ey,em,hY⟩:=cq kn;obtain⟨rs,rfl,hQ⟩:=cG hY;have a4:=gu.ty;have cd:=gu.dep;have g3:=gu.gf;have e4:=gu.sh;dsimp only at em a4 cd g3 e4;obtain⟨bt,rfl⟩:=tm_ref a4 em;subst e_;have e8:=c8 tm j;have hP:(b.ps.take (j+1)).map (scale fr)=(b.ps.take j).map (scale fr)++ [scale fr (tm,sf)]:=by rw[aH eq,zd];rfl
     have e9:=c8 tm (j+1)
     have dl:(aZ (bs.map ofB) (wk.take i)++(b.ps.take j).map (scale fr)).length<=45:=by
      rw[zj,yR,zv];omega
     generalize iI:aZ (bs.map ofB) (wk.take i)++(b.ps.take j).map (scale fr)=ds at ao e8 dl;have hS:aZ (bs.map ofB) (wk.take i)++(b.ps.take (j+1)).map (scale fr)=ds++ [scale fr (tm,sf)]:=by rw[hP,<-AL,iI]
     rw[hS]at e9 ⊢;have ec:Su.cnt tm (ds++ [scale fr (tm,sf)])=Su.cnt tm ds+1:=by rw[gC,uZ tm _ rfl]
     rw[ec]at e9;refine O3 T' _ rfl (SqT.of (sH _ _ ey)) rfl _ _ rfl _ _ rfl rfl ?_;refine hZq fun q_ e_=>?_;obtain⟨kvs,dj,lr,jn,hj⟩:=ao.da.val a4;subst e_;refine U9 _ rfl D kvs rfl dj (Y8 _ rfl two (fun p np=>?_));have sp:=aa (o:= .tup [.int 0, .int 1]) np;have d3:=ao.same sp;have g4:=dj.kd (Kd.of_same sp) (sp _ _ dj.at_);have a6:=sH.trans sp;have c3:=sp _ _ aT;have bB:=em.mono (Kd.of_same a6);refine Y7 bt (ktL tm) rfl g4 (key_tm a4 cd bB) ?_
     obtain⟨z,ez,hz⟩:∃z,(valJ kvs (ktL tm)).getD (.ref p)=z/\TrAt (upd H2 p (.tup [.int 0, .int 1])) z (frT (if tm∈keys then g tm else zero)):=by
      by_cases m:tm∈keys
      . obtain⟨v,e1,e2⟩:=jn m;rw[e1,if_pos m];exact Y3 v rfl (e2.mono (Kd.of_same sp))
      . rw[hj m,if_neg m];exact Y3 _ rfl (bZ a8)
     rw[ez]
     have gq:Gf (1+Su.cnt tm ds*169) (if tm∈keys then g tm else zero):=by
      split
      . rename_i m;exact ao.gf tm m
      . exact jE (by omega)
     have rq:rv (if tm∈keys then g tm else zero)=if tm∈keys then rv (g tm)else 0:=by
      split
      . rfl
      . exact rv_zero
     generalize upd H2 p (.tup [.int 0, .int 1])=H3 at sp d3 g4 hz a6 bB c3 ⊢;generalize (if tm∈keys then g tm else zero)=q at gq rq hz;refine U5 _ rfl _ rfl (O7 (.ref rs) (.ref bv) sf fr 8 160 rfl (bZ (a6 _ _ hQ)) (bZ (a6 _ _ bb)) g3 ⟨gk,by omega,fun y H4 nw s4 hy lL h5 ib=>?_⟩)
     refine O7 z y q nw (1+Su.cnt tm ds*169) (8+160) rfl (hz.mono (Kd.of_same s4)) hy gq ⟨ib,by have:=b8 _ e9;omega,fun y2 H5 nv s5 ia hO kB h6=>?_⟩
     have cm:=d3.same (s4.trans s5);have ih:=a6.trans (s4.trans s5);have d4:=(s4.trans s5) _ _ c3;have dI:=bB.mono (Kd.of_same (s4.trans s5));obtain⟨c4,ej,fh⟩:=cm.da.ex;have lv:c4.length=keys.length:=Paired.length fh;have l4:=ao.len
     have kI:rt≠D:=fun e=>by
      have:=ej.at_;rw[<-e,d4]at this;cases this
     refine O2 _ rfl _ rfl D bt (ktL tm) c4 rfl rfl ej (key_tm a4 cd dI) ⟨by omega,?_⟩
     refine⟨az nD ih,addK keys tm,J2 (setG g tm nv) _ _ rfl ⟨cm.da.put a4 cd dI ia ej (fun _=>fh),?_,fun t m'=>?_,?_⟩ ((ae kI).trans d4)⟩
     . refine ao.sd.add (p:=scale fr (tm,sf)) hO ?_;show rv nv=(if tm∈keys then rv (g tm)else 0)+rv (gL sf fr);rw[kB,h5,rq,kj e4 d7]
     . unfold setG;by_cases z':t=tm
       . rw[if_pos z',z',ec];exact h6.mono (by omega)
       . rw[if_neg z']
         have mt:t∈keys:=by
          unfold addK at m';split at m'
          . exact m'
          . rcases zw.mp m' with m'|m'
            . exact m'
            . exact absurd (zq.mp m') z'
         refine(ao.gf t mt).mono ?_;have:Su.cnt t ds<=Su.cnt t (ds++ [scale fr (tm,sf)]):=by rw[gC];omega
         omega
     . rw[zj,List.length_singleton];unfold addK;split
       . omega
       . rw[zj,List.length_singleton];omega
   . clear ao keys g aB aA v7 v8 v9 aT s3;intro σ H2 z_;refine hZq fun q_ e_=>?_;obtain⟨sH,keys,g,aB,aA,rfl,ao,aT⟩:=z_;subst e_;rw[yl,zp]at ao;refine Y3 _ rfl (O2 _ rfl _ rfl lb xs (pl:Int) (.ref rb) rfl rfl (SqL.of (sH _ _ hl)) (ax fB) (O9 rb _ 1 (.ref rm) rfl rfl (SqT.of (sH _ _ g1)) rfl (Y2 _ rfl (.ref rm) (.ref bv) b.lim fr (Y4 8 160 ⟨rfl,bZ (sH _ _ d6),bZ (sH _ _ bb),gB.gf,gk,by decide,fun x6 H6 f6 s6 kl l7 e6 g6=>?_⟩))))
     refine O7 (.ref rt) x6 tt f6 (1+i*169) (8+160) rfl (bZ (s6 _ _ aT)) kl fb ⟨g6,by omega,fun x7 H7 f7 s7 jl la e7 g7=>?_⟩
     obtain⟨r7,rfl,hJ⟩:=cG jl;refine ah ?_
     have e8:rv f7=totR (bs.map ofB) (wk.take (i+1)):=by
      rw[eg,pW,pV,e7,e6,bI];dsimp only;rw[ew];rfl
     have ed:aZ (bs.map ofB) (wk.take (i+1))=aZ (bs.map ofB) (wk.take i)++b.ps.map (scale fr):=by
      rw[eg,pE,pD];dsimp only;rw[ew];rfl
     exact⟨sH.trans (s6.trans s7),Y6 keys g r7 f7 (O6 _ _ _ _ _ rfl (by rw[ed];exact ao.same (s6.trans s7)) hJ la (g7.mono (by omega)) e8)⟩
 . intro σ H1 z_;refine hZq fun q_ e_=>?_;obtain⟨sH,keys,g,rt,tt,v7,v8,v9,aB,aA,rfl,ao,aT,d2,fb,bI⟩:=z_;rw[zp]at ao bI;have et:tt=vf:=fu d2 ai.vf_.1 (bI.trans ai.val);subst et;have gS:∀k∈wk,k.1 < (bs.map ofB).length:=fun k m=>by rw[yR];exact ai.lt k m
   have fl:=i9 b7 gS;have hM:wk.length*us.length<=4*4:=AB w4 u4;have lk:=ao.len;have cn:∀t,Su.cnt t (aZ (bs.map ofB) wk)<=4:=fun t=>z7 (ic b7 t gS) w4;have gk:∀t∈keys,Gq 700 (t,g t):=fun t m=>⟨(ao.da.ty t m).1,(ao.da.ty t m).2,(ao.gf t m).mono (by have:=cn t;omega),ao.sd.sh t m⟩
   obtain⟨kvs,dj,pr⟩:=ao.da.ex;subst e_;have kb:kvs.length=keys.length:=Paired.length pr
   try dsimp only
   refine U5 _ rfl _ rfl (O7 rt rv' tt.1 tt.2 tt.1 tt.2 rfl rfl (SqT.of aT) (SqT.of (sH _ _ ea)) (Y3 _ rfl ?_));refine ite2 (fun c=>absurd c (by simp)) fun _=>?_
   refine oG ?_;refine cA rfl ?_;refine U6 _ rfl D kvs rfl rfl dj (fun vw im=>?_);have sv:=aa (o:=iu vw D) im;have d9:=dj.kd (Kd.of_same sv) (sv _ _ dj.at_);have gp:=en_mono (Kd.of_same sv) pr;have eH:=a8 (H:=H1) (a:=vw) (o:=iu vw D);have hg:=sH.trans sv;generalize upd H1 vw (iu vw D)=H2 at sv d9 gp eH hg ⊢;refine⟨vw,Y7 D kvs rfl eH d9 (fun ob D2 eo=>?_)⟩;have gz:Kd H2 (upd H2 D (.frz ob (dJ P w D kvs))):=Kd.updJ d9.at_;have gn:Same H (upd H2 D (.frz ob (dJ P w D kvs))):=az nD hg;have f2:=en_mono gz gp;have e0:=a8 (H:=H2) (a:=D) (o:= .frz ob (dJ P w D kvs));generalize upd H2 D (.frz ob (dJ P w D kvs))=H3 at gz gn f2 e0 eo ⊢;refine kX (fun i acc H'=>Same H3 H'/\H' D2=some (.lst acc)/\TrsAt H' acc ((outP g (keys.take i)).map prT)) ⟨aa eo,a8,by rw[Aa];exact .nil⟩ (fun i acc H' p=>p.1 _ _ e0) ?_ ?_
   . rintro i Tt x y acc H4 hi ex ⟨s4,bR,hA⟩ nT;rw[yR]at hi;refine hZq fun q_ e_=>?_
     obtain⟨⟨ek,eb,ev⟩,ld,h4⟩:∃en,kvs[i]?=some en/\(V.ref en.2.1,en.2.2)=(x,y):=by
      rw[yW]at ex;obtain⟨en,e1,e2⟩:=za.mp ex;exact Y3 en e1 e2
     subst e_;cases h4;refine hZq fun q_ e_=>?_;obtain⟨t,et,e1,e2,e3⟩:=eC f2 ld;subst e_;dsimp only at e1 e2 e3 nT ⊢;obtain⟨rv',g0,eG⟩:=cG e3;subst g0;have mt:=z5 et;have lx:i < keys.length:=(yZ.mp et).1;have sT:=aa (o:= .tup [.ref eb, .ref rv']) nT;have kT:=(Kd.of_same s4).trans (Kd.of_same sT);have hv:=e3.mono kT;have fa:=sT _ _ (s4 _ _ eG);have a5:=a8 (H:=H4) (a:=Tt) (o:= .tup [.ref eb, .ref rv']);have hf:=s4.trans sT;have cr:=sT _ _ bR;have ft:=hA.mono (Kd.of_same sT);have hL:=e2.mono kT;have kc:Tt≠D2:=fun z=>by rw[z,bR]at nT;cases nT
     generalize upd H4 Tt (.tup [.ref eb, .ref rv'])=H5 at*;have al:=hA.len;rw[yR]at al
     have lB:(outP g (keys.take i)).length<=keys.length:=by
      unfold outP;rw[yR];refine z7 (zu _ _) ?_;rw[zv];omega
     refine Y2 _ rfl Tt _ 1 (.ref rv') ⟨rfl,rfl,SqT.of a5,rfl,two,fun z nz=>?_⟩;have sz:=aa (o:= .tup [.int 0, .int 1]) nz;have hz:=a8 (H:=H5) (a:=z) (o:= .tup [.int 0, .int 1]);refine O7 rv' z ((g t).1) ((g t).2) 0 1 rfl rfl (SqT.of (sz _ _ fa)) (SqT.of hz) (Y3 _ rfl ?_);rw[yM (ao.sd.sh t mt)]
     have ef:outP g (keys.take (i+1))=outP g (keys.take i)++(if decide ((g t).1≠0)=true then[(t,g t)]else[]):=by
      unfold outP;rw[aH et,zx,zd,List.filter_cons];split<;>rfl
     have kz:=Kd.of_same sz;refine ite2 (fun y=>?_) (fun y=>CompS.mk (by rw[yR];exact hi) ⟨hf.trans sz,sz _ _ cr,?_⟩)
     . have gI:=sz _ _ cr;have kd:=kz.trans (Kd.upd (ys:=acc++ [.ref Tt]) gI);refine Y3 _ rfl (CompN.mk (by rw[yR];exact hi) (by omega) gI ⟨az eo (hf.trans sz),a8,?_⟩)
       rw[ef,if_pos y,zd];exact TrsAt.app (.cons (cy ((ae kc).trans (sz _ _ a5)) (hL.mono kd) (hv.mono kd)) .nil) (ft.mono kd)
     . rw[ef,if_neg y,Aw];exact ft.mono kz
   . rintro acc H4 ⟨s4,bR,hA⟩;rw[yR,kb,zp]at hA
     have ol:(outP g keys).length<=keys.length:=by
      unfold outP;rw[yR];exact zu _ _
     have a3:∀t∈(outP g keys).map prT,Ty .pr t/\t.depth<=8:=fun t m=>by
      refine hZq fun q_ e_=>?_;obtain⟨p,mp,rfl⟩:=zr.mp m;unfold outP at mp;obtain⟨t,mt,rfl⟩:=zr.mp mp;subst e_;exact(gk t (zC.mp mt).1).pr
     refine U4 D2 acc _ rfl bR hA (by rw[yR];omega) ⟨fun t m=>⟨vj (.inr (a3 t m).1),g9 (a3 t m).1,by have:=(a3 t m).2;omega⟩,fun t m u mu=>pO 30 (by have:=(a3 t m).2;omega) (a3 t m).1 (a3 u mu).1,fun S ws' ly nS pm ey kr=>?_⟩
     obtain⟨qs,rfl,pq⟩:=f8 pm rfl;have sS:=aa (o:= .lst ws') nS;have eL:=ao.sd.canP ao.da.nd (fun t m=>(ao.da.ty t m).1) pq fun i j p q il e1 e2=>kr i j _ _ il (by rw[yW,e1];rfl) (by rw[yW,e2];rfl)
     refine U3 S ws' rfl (.inl ⟨SqL.of a8,fun p np=>?_⟩);have sp:=aa (o:= .tup ws') np;have hN:=ey.mono (Kd.of_same (sS.trans sp));have aC:=gn.trans (s4.trans (sS.trans sp));have has:Can (aZ (bs.map ofB) wk) as:=⟨ai.as_.1,fun p m=>⟨(ai.as_.2 p m).1.sh,(ai.as_.2 p m).2.2⟩,fun t=>(ai.tot t).symm⟩;obtain rfl:=eL.uniq has
     have h8:∀t∈qs.map prT,Tr.pure t/\t.depth<=8:=fun t m=>by
      obtain⟨p,mp,rfl⟩:=zr.mp m;have:=(ai.as_.2 p mp).1.pr;exact⟨g9 this.1,this.2⟩
     have hok:=pQ (n:=8) h8;have a5:=eO (a8 (H:=upd H4 S (.lst ws')) (a:=p) (o:= .tup ws')) hN;generalize upd (upd H4 S (.lst ws')) p (.tup ws')=H5 at aC a5;refine U6 _ rfl (qs.map prT) (qs.map prT) a5 (eT.mono (Kd.of_same aC)) (.inl hok.1) ⟨by have:=hok.2;omega,?_⟩
     rw[eqTs_refl];refine Y3 _ rfl ?_;refine iteF (fk ?_);have eB:=hR.same aC;have gv:∀ {ps:List Pq},(∀p∈ps,Gq 8 p)->(∀p∈ps,p.1∈us)->∀p∈ps,Gq 8 p/\p.1∈us:=fun h1 h2 p m=>⟨h1 p m,h2 p m⟩;refine J3 _ rfl lb rfl ⟨_,SqL.of (aC _ _ hl)⟩ ?_
     refine dD (xs:=xs) (fun i σ H'=>Same H5 H'/\∃bi bw bj bC bg:Option V,σ=sgo lb va r rv' reached (some (.ref D)) (some (.ref rt)) v7 v8 v9 aB aA bi bw bj bC bg)
      ⟨Same.refl _,_,Y6 _ _ _ _ rfl⟩ (fun i σ H' _ p=>SqL.of (p.1 _ _ (aC _ _ hl))) ?_ ?_
     . intro i y σ H6 ex z_;refine hZq fun q_ e_=>?_;obtain⟨s6,bi,bw,bj,bC,bg,rfl⟩:=z_;have a0:=aC.trans s6;obtain⟨u,eu,hu⟩:=hT.get' ex;rw[yW]at eu;obtain⟨b,eb,rfl⟩:=za.mp eu;have mb:=z5 eb;have gB:=ai.gb b mb;have hI:=fM b mb;obtain⟨r3,xw,xm,kC,rfl,fC,el,d5,ee⟩:=eP hu;obtain⟨rm,rfl,d6⟩:=cG d5;subst e_;unfold TrAt at ee;subst ee;refine Y7 r3 _ rfl (SqT.of (a0 _ _ fC)) rfl (U3 _ _ rfl ⟨_,U9 _ rfl _ _ rfl rfl ?_⟩);refine O2 _ rfl _ rfl r _ 3 (.ref d) rfl rfl (SqT.of (a0 _ _ a1)) rfl ⟨xw,O7 d us G b.ps 8 160 rfl (el.mono (Kd.of_same a0)) (eB.same s6) (gv gB.gq gB.mem) ⟨ai.g,by omega,fun r5 f5 H7 s7 b6 f1 e5 g5=>?_⟩⟩
       refine ah ?_
       try dsimp only
       have eA:Gf 900 f5:=g5.mono (by omega)
       have hK:=a0.trans s7;have cI:=hK _ _ d6;have gl:=gB.gf;have t1:Big f5.1:=eA.top.big (by decide)
       have t2:Big f5.2:=eA.bot.big (by decide)
       have l1:Big b.lim.1:=gl.top.big (by decide)
       have l2:Big b.lim.2:=gl.bot.big (by decide)
       refine U2 _ rfl r5 _ 0 (.int f5.1) rfl rfl (SqT.of b6) rfl (U2 _ rfl rm _ 1 (.int b.lim.2) rfl rfl (SqT.of cI) rfl (Y7 _ _ rfl rfl ⟨t1,l2⟩ (U2 _ rfl rm _ 0 (.int b.lim.1) rfl rfl (SqT.of cI) rfl (U2 _ rfl r5 _ 1 (.int f5.2) rfl rfl (SqT.of b6) rfl (Y7 _ _ rfl rfl ⟨l1,t2⟩ (Y5 _ _ rfl rfl ?_))))));refine ah ?_
       try dsimp only
       have le:f5.1*b.lim.2<=b.lim.1*f5.2:=(yn eA.pos gl.pos).mpr (by rw[e5];exact ai.met b mb)
       have go:Same H5 H7/\∃bi bw bj bC bg:Option V,sgo lb va r rv' reached (some (.ref D)) (some (.ref rt)) v7 v8 v9 aB aA (some xw) (some (.ref rm)) (some (.bl b.st)) (some (.ref r5)) (some (.int (f5.1*b.lim.2 - b.lim.1*f5.2)))=sgo lb va r rv' reached (some (.ref D)) (some (.ref rt)) v7 v8 v9 aB aA bi bw bj bC bg:=⟨s6.trans s7,_,Y6 _ _ _ _ rfl⟩;refine U9 _ rfl _ 0 rfl rfl (Y3 _ rfl ?_);refine ite2 (fun c=>absurd (of_decide_eq_true c) (by omega)) fun _=>?_
       refine O5 _ rfl rfl _ rfl ?_;refine ite2 (fun _=>?_) fun _=>iteF go;refine U5 _ rfl b.st rfl ?_;refine ite2 (fun c=>?_) fun _=>iteF go;refine U5 _ rfl reached rfl ?_;refine ite2 (fun c2=>?_) fun _=>go;have:=ai.st c2 b mb;rw[c]at this;cases this
     . intro σ H6 z_;refine hZq fun q_ e_=>?_;obtain⟨s6,bi,bw,bj,bC,bg,rfl⟩:=z_;subst e_;have a0:=aC.trans s6;refine O2 _ rfl _ rfl r _ 3 (.ref d) rfl rfl (SqT.of (a0 _ _ a1)) rfl ⟨va,O7 d us G qs 8 160 rfl (eT.mono (Kd.of_same a0)) (eB.same s6) (fun p m=>⟨(ai.as_.2 p m).1,(ai.as_.2 p m).2.1⟩) ⟨ai.g,by omega,fun r5 f5 H7 s7 b6 f1 e5 g5=>?_⟩⟩
       obtain rfl:=fu f1 ai.vf_.1 (e5.trans ai.o);refine Y3 _ rfl (O7 r5 rv' f5.1 f5.2 f5.1 f5.2 rfl rfl (SqT.of b6) (SqT.of ((a0.trans s7) _ _ ea)) ?_);rw[decide_eq_true ⟨rfl,rfl⟩];exact k H7 (a0.trans s7)
theorem kF{N:Int}:∀ {fs:List Fr} {s:Int},0 < s->(∀f∈fs,0 < f.2)->s∣N->(∀f∈fs,f.2∣N)->lcmF s fs∣N
 | [],s,_,_,h,_=>h
 |f::r,s,hs,hp,h,hd=>by
  have h0:=hp f yT;have hl:=Int.coe_lcm_dvd h (hd f yT)
  have e:s / (Int.gcd s f.2:Int)*f.2=(Int.lcm s f.2:Int):=by
   obtain⟨c,k,e1,i,_,d,_⟩:=cz (x:=s) (y:=f.2) (by omega)
   have j:0 < Int.gcd s f.2:=zB _ (by omega)
   have a:=Int.gcd_mul_lcm s f.2;rw[d]
   have b:(Int.gcd s f.2:Int)*(c*f.2)=(Int.gcd s f.2:Int)*(Int.lcm s f.2:Int):=by
    rw[<-AI,<-e1];have:=Au hs h0;have:((s*f.2).natAbs:Int)=s*f.2:=by omega
    rw[<-this,zA,<-a];exact Int.natCast_mul _ _
   exact Int.eq_of_mul_eq_mul_left (by omega) b
  simp only[lcmF];rw[e];exact kF (by rw[<-e];exact(lcm1 hs h0).1) (fun g m=>hp g (yU _ m)) hl fun g m=>hd g (yU _ m)
theorem uL{fs:List Fr}(h:∀f∈fs,0 < f.2/\f.2∣N):0 < lcmF 1 fs/\lcmF 1 fs∣N/\∀f∈fs,f.2∣lcmF 1 fs:=by
 have b:∀f∈fs,0 < f.2/\f.2.natAbs<=((fs.map fun f:Fr=>f.2.natAbs).foldr max 0):=fun f a=>by
  refine⟨(h f a).1,?_⟩;clear h
  induction fs with
  |nil=>cases a
  |cons x r c=>
   rw[zh,List.foldr_cons];rcases yY.mp a with rfl|a
   . exact Nat.le_max_left _ _
   . exact z7 (c a) (Nat.le_max_right _ _)
 obtain⟨d,_,e,_⟩:=dO (s:=1) (by decide) b
 exact⟨d,kF (by decide) (fun f m=>(h f m).1) (Int.one_dvd _) fun f m=>(h f m).2,e⟩
theorem tH{s:Int}{t:Tr}{f:Fr}:∀ {a:List Pq},(a.map (·.1)).Nodup->(t,f)∈a->cw s t a=wh f s
 |p::r,nd,m=>by
  rw[zh,Ab]at nd;simp only[cw];rcases yY.mp m with e|m
  . subst e;rw[if_pos rfl]
  . rw[if_neg fun e=>nd.1 (by rw[e];exact A6 (f:=(·.1)) m)]
    exact tH nd.2 m
def sumF(F:Tr->Int):List Tr->Int
 | []=>0
 |t::r=>F t+sumF F r
theorem oM{a b:List Tr}(h:a.Perm b):sumF F a=sumF F b:=by
 induction h with
 |nil=>rfl
 |cons x _ c=>simp only[sumF,c]
 |swap x y l=>simp only[sumF];omega
 |trans _ _ h1 h2=>rw[h1,h2]
theorem k8{F:Tr->Int}:∀ {a b:List Tr},sumF F (a++b)=sumF F a+sumF F b
 | [],b=>by simp[sumF]
 |t::r,b=>by simp only[zK,sumF,k8,Int.add_assoc]
theorem qE{F:Tr->Int}{us:List Tr}:∀n,n<=us.length->(Wg.sumN n fun c=>F (us.getD c .non))=sumF F (us.take n)
 |0,_=>by rw[Aa];rfl
 |n+1,h=>by
  have e:us[n]?=some us[n]:=yS (by omega)
  rw[Wg.sumN,qE n (by omega),aH e,k8,z8,e]
  show _+F us[n]=_+(F us[n]+0);omega
theorem sum4(h:us.Perm [t0,t1,t2,t3]):(Wg.sumN us.length fun c=>F (us.getD c .non))=F t0+F t1+F t2+F t3:=by
 rw[qE us.length (yV _),zp,oM h];simp only[sumF];omega
theorem sP:∀ {a:List Pq} {p q:Pq},(a.map (·.1)).Nodup->p∈a->q∈a->p.1=q.1->p=q
 |x::r,p,q,nd,mp,mq,e=>by
  rw[zh,Ab]at nd;rcases yY.mp mp with rfl|c
  . rcases yY.mp mq with rfl|b
    . rfl
    . exact absurd (A6 (f:=(·.1)) b) (by rw[<-e];exact nd.1)
  . rcases yY.mp mq with rfl|b
    . exact absurd (A6 (f:=(·.1)) c) (by rw[e];exact nd.1)
    . exact sP nd.2 c b e
structure Sm (p pz:List Pq):Prop where
 asc:Asc p
 pm:p.Perm (pz.filter nz)
 nd:(pz.map (·.1)).Nodup
theorem Sm.mem(h:Sm p pz){q:Pq}:q∈p↔q∈pz/\q.2≠zero:=by
 rw[h.pm.mem_iff,zC];unfold nz;rw[decide_eq_true_iff]
theorem Sm.cw(h:Sm p pz){t:Tr}{f:Fr}{s v:Int}(m:(t,f)∈pz)(e:wh f s=v):K46.cw s t p=v:=by
 rw[<-e];by_cases z:f=zero
 . rw[jJ fun q mq eq=>?_,z]
   . show 0=0*_;rw[zQ]
   . obtain⟨m1,a⟩:=h.mem.mp mq;have:=sP h.nd m1 m eq;rw[this]at a;exact a z
 . refine tH ?_ (h.mem.mpr ⟨m,z⟩);rw[(h.pm.map (·.1)).nodup_iff];exact h.nd.sublist (List.filter_sublist.map _)
theorem Sm.lcm(h:Sm p pz){ls:List Fr}(hN:∀f∈pz.map (·.2)++ls,0 < f.2/\f.2∣N):0 < lcmF 1 (p.map (·.2)++ls)/\lcmF 1 (p.map (·.2)++ls)∣N/\∀q∈pz,q.2≠zero->q.2.2∣lcmF 1 (p.map (·.2)++ls):=by
 obtain⟨a,b,c⟩:=uL (fs:=p.map (·.2)++ls) (N:=N) fun f d=>hN f (by
  rcases zw.mp d with d|d
  . obtain⟨q,mq,rfl⟩:=zr.mp d;exact Af _ (A6 (f:=(·.2)) (h.mem.mp mq).1)
  . exact zy _ d)
 exact⟨a,b,fun q mq n=>c _ (Af _ (A6 (f:=(·.2)) (h.mem.mpr ⟨mq,n⟩)))⟩
structure Bx (t0 t1 t2 t3:Tr) (most:Int) (st:Bool) (bs:List Bnd) (p3 pA pB po:List Pq):Prop where
 m1:1<=most
 m9:most<=9
 tm:∀t∈ [t0,t1,t2,t3],Gm [t0,t1,t2,t3] t/\Ty .tm t/\t.depth<=7
 nd: [t0,t1,t2,t3].Nodup
 s3:Sm p3 (pz3 t0 t1 t2 t3)
 sA:Sm pA (pzA t0 t1 t2 t3)
 sB:Sm pB (pzB t0 t1 t2 t3)
 sO:Sm po (pzO t0 t1 t2 t3)
 mem:∀b,b∈bs↔b∈ [nb t0,nb t1,nb t2,nb t3,b3 p3 most st,b0 pA,b0 pB]
 len:bs.length=7\/bs.length=8
theorem Bq.bx{st:Bool}{bs:List Bnd}(h:Bq t0 t1 t2 t3 most st bs)(m1:1<=most)(m9:most<=9)(tm:∀t∈ [t0,t1,t2,t3],Gm [t0,t1,t2,t3] t/\Ty .tm t/\t.depth<=7)(nd: [t0,t1,t2,t3].Nodup)(ao:Asc po)(pmo:po.Perm ((pzO t0 t1 t2 t3).filter nz)):∃p3 pA pB,Bx t0 t1 t2 t3 most st bs p3 pA pB po:=by
 obtain⟨p3,pA,pB,ex,i,f,d,mA,g,e,pm,a⟩:=h;refine⟨p3,Y4 pA pB ⟨m1,m9,tm,nd,⟨i,f,nd⟩,⟨d,mA,nd⟩,⟨g,e,nd⟩,⟨ao,pmo,nd⟩,fun b=>?_,?_⟩⟩
 . rw[pm.mem_iff,zw];rcases a with rfl|⟨x,c,rfl⟩
   . exact⟨fun m=>m.elim id fun z=>(by cases z), .inl⟩
   . exact⟨fun m=>m.elim id fun z=>by rw[zq.mp z];exact c, .inl⟩
 . have:=pm.length_eq;rw[zj]at this;rcases a with rfl|⟨x,c,rfl⟩
   . exact .inl this
   . exact .inr this
theorem Bx.sc{st:Bool}{bs:List Bnd}(h:Bx t0 t1 t2 t3 most st bs p3 pA pB po):scl (b3 p3 most st)=1/\scl (b0 pA)=100/\scl (b0 pB)=50/\sca po=100:=by
 obtain⟨x1,p,_⟩:=h.s3.lcm (ls:= [(most,1)]) (N:=1) (by
  intro f a;rcases zw.mp a with a|a
  . exact(by decide:∀f∈(pz3 .non .non .non .non).map (·.2),0 < f.2/\f.2∣ (1:Int)) f a
  . rw[zq.mp a]
    exact⟨Int.one_pos,Int.dvd_refl _⟩)
 obtain⟨y1,j,b⟩:=h.sA.lcm (ls:= [zero]) (N:=100) (by decide:∀f∈(pzA .non .non .non .non).map (·.2)++ [zero],0 < f.2/\f.2∣ (100:Int))
 obtain⟨s,l,m⟩:=h.sB.lcm (ls:= [zero]) (N:=50) (by decide:∀f∈(pzB .non .non .non .non).map (·.2)++ [zero],0 < f.2/\f.2∣ (50:Int))
 obtain⟨o,i,d⟩:=h.sO.lcm (ls:= []) (N:=100) (by decide:∀f∈(pzO .non .non .non .non).map (·.2)++ [],0 < f.2/\f.2∣ (100:Int))
 have e:=b (t0,(1,4)) (by simp[pzA]) (show((1,4):Fr)≠zero by decide)
 have k:=b (t2,(-1,25)) (by simp[pzA]) (show((-1,25):Fr)≠zero by decide)
 have g:=m (t2,(-1,50)) (by simp[pzB]) (show((-1,50):Fr)≠zero by decide)
 have w4:=d (t0,(3,4)) (by simp[pzO]) (show((3,4):Fr)≠zero by decide)
 have c:=d (t2,(1,50)) (by simp[pzO]) (show((1,50):Fr)≠zero by decide)
 have t:=Int.le_of_dvd (by decide) p
 have q:=Int.le_of_dvd (by decide) j
 have r:=Int.le_of_dvd (by decide) l
 have n:=Int.le_of_dvd (by decide) i
 rw[Aw]at o w4 c n;dsimp only at e k g w4 c;refine⟨?_,?_,?_,?_⟩
 . show lcmF 1 (p3.map (·.2)++ [(most,1)])=1;omega
 . show lcmF 1 (pA.map (·.2)++ [zero])=100;omega
 . show lcmF 1 (pB.map (·.2)++ [zero])=50;omega
 . show lcmF 1 (po.map (·.2))=100;omega
theorem r9(t:Tr):scl (nb t)=1:=by
 show lcmF 1 [((-1,1):Fr),(0,1)]=1;decide
structure Cv (p3 pA pB po:List Pq) (t:Tr) (a b c o:Int):Prop where
 A:cw 100 t pA=a
 B:cw 50 t pB=b
 C:cw 1 t p3=c
 O:cw 100 t po=o
theorem Bx.cv{st:Bool}{bs:List Bnd}(h:Bx t0 t1 t2 t3 most st bs p3 pA pB po):Cv p3 pA pB po t0 25 25 0 75/\Cv p3 pA pB po t1 (-6000) (-4500) 0 (-15000)/\Cv p3 pA pB po t2 (-4) (-1) 1 2/\Cv p3 pA pB po t3 900 150 0 (-600):=by
 refine⟨⟨?_,?_,?_,?_⟩,⟨?_,?_,?_,?_⟩,⟨?_,?_,?_,?_⟩,⟨?_,?_,?_,?_⟩⟩
 . exact h.sA.cw (f:=(1,4)) (by simp[pzA]) rfl
 . exact h.sB.cw (f:=(1,2)) (by simp[pzB]) rfl
 . exact h.s3.cw (f:=(0,1)) (by simp[pz3]) rfl
 . exact h.sO.cw (f:=(3,4)) (by simp[pzO]) rfl
 . exact h.sA.cw (f:=(-60,1)) (by simp[pzA]) rfl
 . exact h.sB.cw (f:=(-90,1)) (by simp[pzB]) rfl
 . exact h.s3.cw (f:=(0,1)) (by simp[pz3]) rfl
 . exact h.sO.cw (f:=(-150,1)) (by simp[pzO]) rfl
 . exact h.sA.cw (f:=(-1,25)) (by simp[pzA]) rfl
 . exact h.sB.cw (f:=(-1,50)) (by simp[pzB]) rfl
 . exact h.s3.cw (f:=(1,1)) (by simp[pz3]) rfl
 . exact h.sO.cw (f:=(1,50)) (by simp[pzO]) rfl
 . exact h.sA.cw (f:=(9,1)) (by simp[pzA]) rfl
 . exact h.sB.cw (f:=(3,1)) (by simp[pzB]) rfl
 . exact h.s3.cw (f:=(0,1)) (by simp[pz3]) rfl
 . exact h.sO.cw (f:=(-6,1)) (by simp[pzO]) rfl
theorem iK{b:Bnd}{c:Nat}(h:c < us.length):rowF us b c= -(cw (scl b) (us.getD c .non) b.ps):=if_pos h
theorem row_n{b:Bnd}:rowF us b us.length=wh b.lim (scl b)/\rowF us b (us.length+1)=if b.st then -1 else 0:=by
 unfold rowF;exact⟨by rw[if_neg (by omega),if_pos rfl],by rw[if_neg (by omega),if_neg (by omega)]⟩
open Classical in
theorem cw_nb{t t':Tr}:cw (scl (nb t')) t (nb t').ps=if t'=t then -1 else 0:=by
 rw[r9];show(if t'=t then wh (-1,1) 1 else 0)=_;rfl
theorem vM(hu:us.Perm [t0,t1,t2,t3]){c:Nat}(h:c < us.length):us.getD c .non∈ [t0,t1,t2,t3]:=by
 rw[<-hu.mem_iff,z8,yS h];exact zJ h
structure Bx.At (t0 t1 t2 t3:Tr) (us:List Tr) (b:Bnd) (a0 a1 a2 a3 v:Int):Prop where
 a0:cw (scl b) t0 b.ps=a0
 a1:cw (scl b) t1 b.ps=a1
 a2:cw (scl b) t2 b.ps=a2
 a3:cw (scl b) t3 b.ps=a3
 v:wh b.lim (scl b)=v
open Classical in
theorem Bx.seven{st:Bool}{bs:List Bnd}(h:Bx t0 t1 t2 t3 most st bs p3 pA pB po):(Bx.At t0 t1 t2 t3 us (nb t0) (-1) 0 0 0 0/\Bx.At t0 t1 t2 t3 us (nb t1) 0 (-1) 0 0 0/\Bx.At t0 t1 t2 t3 us (nb t2) 0 0 (-1) 0 0/\Bx.At t0 t1 t2 t3 us (nb t3) 0 0 0 (-1) 0)/\
 Bx.At t0 t1 t2 t3 us (b3 p3 most st) 0 0 1 0 most/\Bx.At t0 t1 t2 t3 us (b0 pA) 25 (-6000) (-4) 900 0/\Bx.At t0 t1 t2 t3 us (b0 pB) 25 (-4500) (-1) 150 0:=by
 obtain⟨c0,c1,k,j⟩:=h.cv;obtain⟨s3,sA,sB,_⟩:=h.sc;have n:=h.nd;simp only[Ab,yY,zf,or_false,not_or,not_false_eq_true,List.nodup_nil,and_true]at n;obtain⟨⟨c,b,f⟩,⟨g,i⟩,d⟩:=n;have a:∀ {s:Int},wh zero s=0:=fun{s}=>zQ _;have y:∀ {t t':Tr},t'=t->cw (scl (nb t')) t (nb t').ps= -1:=fun e=>cw_nb.trans (if_pos e);have n:∀ {t t':Tr},t'≠t->cw (scl (nb t')) t (nb t').ps=0:=fun e=>cw_nb.trans (if_neg e)
 exact⟨⟨⟨y rfl,n c,n b,n f,a⟩,⟨n (Ne.symm c),y rfl,n g,n i,a⟩,⟨n (Ne.symm b),n (Ne.symm g),y rfl,n d,a⟩,⟨n (Ne.symm f),n (Ne.symm i),n (Ne.symm d),y rfl,a⟩⟩,
  ⟨by rw[s3];exact c0.C,by rw[s3];exact c1.C,by rw[s3];exact k.C,by rw[s3];exact j.C,by rw[s3];exact Int.mul_one _⟩,
  ⟨by rw[sA];exact c0.A,by rw[sA];exact c1.A,by rw[sA];exact k.A,by rw[sA];exact j.A,a⟩,⟨by rw[sB];exact c0.B,by rw[sB];exact c1.B,by rw[sB];exact k.B,by rw[sB];exact j.B,a⟩⟩
theorem Bx.all{st:Bool}{bs:List Bnd}(h:Bx t0 t1 t2 t3 most st bs p3 pA pB po){b:Bnd}(m:b∈bs):∃a0 a1 a2 a3 v,Bx.At t0 t1 t2 t3 us b a0 a1 a2 a3 v/\((a0<=0/\a2<=0/\v=0/\b.st=false)\/(a0=0/\a2=1/\v=most/\b.st=st)\/(a0=25/\(a2= -4\/a2= -1)/\v=0/\b.st=false)):=by
 obtain⟨⟨h0,h1,h2,h3⟩,d,a,c⟩:=h.seven (us:=us);have m:=(h.mem b).mp m;simp only[yY,zf,or_false]at m;rcases m with rfl|rfl|rfl|rfl|rfl|rfl|rfl
 . exact Y6 _ _ _ _ (Y3 _ h0 (.inl ⟨by decide,by decide,rfl,rfl⟩))
 . exact Y6 _ _ _ _ (Y3 _ h1 (.inl ⟨by decide,by decide,rfl,rfl⟩))
 . exact Y6 _ _ _ _ (Y3 _ h2 (.inl ⟨by decide,by decide,rfl,rfl⟩))
 . exact Y6 _ _ _ _ (Y3 _ h3 (.inl ⟨by decide,by decide,rfl,rfl⟩))
 . exact Y6 _ _ _ _ (Y3 _ d (.inr (.inl ⟨rfl,rfl,rfl,rfl⟩)))
 . exact Y6 _ _ _ _ (Y3 _ a (.inr (.inr ⟨rfl, .inl rfl,rfl,rfl⟩)))
 . exact Y6 _ _ _ _ (Y3 _ c (.inr (.inr ⟨rfl, .inr rfl,rfl,rfl⟩)))
theorem Bx.crt{st:Bool}{bs:List Bnd}(h:Bx t0 t1 t2 t3 most st bs p3 pA pB po)(hu:us.Perm [t0,t1,t2,t3]):∃W,Crt bs.length us.length (Lf bs us) (cfs us po) W (5*most)/\sumL (fun k=>Lf bs us k (us.length+1)) W=if st then -5 else 0:=by
 have at_:∀b,b∈ [nb t0,nb t1,nb t2,nb t3,b3 p3 most st,b0 pA,b0 pB]->∃k,k < bs.length/\bs[k]?=some b:=fun b m=>by
  obtain⟨k,hk,e⟩:=Ac ((h.mem b).mpr m);exact Y3 k hk (by rw[yS hk,e])
 refine hZq fun q_ e_=>?_;obtain⟨r,n,i⟩:=at_ (b0 pB) (by simp)
 obtain⟨k3,s,f⟩:=at_ (b3 p3 most st) (by simp)
 obtain⟨k1,l1,e1⟩:=at_ (nb t1) (by simp)
 obtain⟨o,l,g⟩:=at_ (nb t3) (by simp)
 obtain⟨⟨_,h1,_,d⟩,h3,_,a⟩:=h.seven (us:=us);obtain⟨c0,c1,q,j⟩:=h.cv;subst e_;have sO:lcmF 1 (po.map (·.2))=100:=h.sc.2.2.2;refine Y3 ([(r,3),(k3,5),(k1,1500),(o,1050)]) ⟨fun p mp=>?_,fun c hc=>?_,?_⟩ ?_
 . simp only[yY,zf,or_false]at mp;rcases mp with rfl|rfl|rfl|rfl
   . exact⟨n,(by decide:(0:Int) < 3)⟩
   . exact⟨s,(by decide:(0:Int) < 5)⟩
   . exact⟨l1,(by decide:(0:Int) < 1500)⟩
   . exact⟨l,(by decide:(0:Int) < 1050)⟩
 . have m:=vM hu hc;simp only[sumL];rw[bp i,bp f,bp e1,bp g,iK hc,iK hc,iK hc,iK hc];unfold cfs;rw[sO];generalize us.getD c .non=t at m;simp only[yY,zf,or_false]at m;rcases m with rfl|rfl|rfl|rfl
   . rw[a.a0,h3.a0,h1.a0,d.a0,c0.O];decide
   . rw[a.a1,h3.a1,h1.a1,d.a1,c1.O];decide
   . rw[a.a2,h3.a2,h1.a2,d.a2,q.O];decide
   . rw[a.a3,h3.a3,h1.a3,d.a3,j.O];decide
 . simp only[sumL];rw[bp i,bp f,bp e1,bp g,row_n.1,row_n.1,row_n.1,row_n.1,a.v,h3.v,h1.v,d.v];omega
 . simp only[sumL];rw[bp i,bp f,bp e1,bp g,row_n.2,row_n.2,row_n.2,row_n.2];show 3*(if false=true then(-1:Int)else 0)+(5*(if st=true then(-1:Int)else 0)+(1500*(if false=true then(-1:Int)else 0)+(1050*(if false=true then(-1:Int)else 0)+0)))=_;cases st<;>decide
theorem Bx.feas{st:Bool}{bs:List Bnd}(h:Bx t0 t1 t2 t3 most st bs p3 pA pB po)(hu:us.Perm [t0,t1,t2,t3]):∃f,Hng bs.length us.length (Lf bs us) (cfs us po) f (fun k=>25*Lf bs us k us.length)/\(∀k,k < bs.length->0<=f k)/\f (bs.length+us.length)=25*(5*most):=by
 classical
 have n:=h.nd;simp only[Ab,yY,zf,or_false,not_or,not_false_eq_true,List.nodup_nil,and_true]at n;obtain⟨⟨j,d,m⟩,⟨o,ai⟩,l⟩:=n;obtain⟨y,a⟩:∃y:Tr->Int,y=fun t=>if t=t0 then most else if t=t2 then 25*most else 0:=⟨_,rfl⟩;have p:y t0=most:=by rw[a];exact if_pos rfl
 have y1:y t1=0:=by rw[a];exact(if_neg (Ne.symm j)).trans (if_neg o)
 have s:y t2=25*most:=by rw[a];exact(if_neg (Ne.symm d)).trans (if_pos rfl)
 have u:y t3=0:=by rw[a];exact(if_neg (Ne.symm m)).trans (if_neg (Ne.symm l))
 have row:∀k b,bs[k]?=some b->(Wg.sumN us.length fun c=>Lf bs us k c*y (us.getD c .non))= -(cw (scl b) t0 b.ps*most+cw (scl b) t2 b.ps*(25*most)):=fun k b e=>by
  rw[bp e,Wg.sumN_congr (g:=fun c=>(fun t=> -(cw (scl b) t b.ps)*y t) (us.getD c .non)) fun c hc=>by rw[iK hc],sum4 (F:=fun t=> -(cw (scl b) t b.ps)*y t) hu]
  rw[p,y1,s,u,zm,zm,Ao,Ao];omega
 obtain⟨f,i⟩:∃f:Nat->Int,f=fun k=>if k < bs.length then(Wg.sumN us.length fun c=>Lf bs us k c*y (us.getD c .non))+25*Lf bs us k us.length else if k < bs.length+us.length then y (us.getD (k - bs.length) .non)else Wg.sumN us.length fun c=>cfs us po c*y (us.getD c .non):=⟨_,rfl⟩
 have x:∀c,c < us.length->f (bs.length+c)=y (us.getD c .non):=fun c hc=>by
  rw[i];show(if _ then _ else if _ then _ else _)=_;rw[if_neg (by omega),if_pos (by omega),Nat.add_sub_cancel_left]
 have w:∀k,k < bs.length->f k=(Wg.sumN us.length fun c=>Lf bs us k c*y (us.getD c .non))+25*Lf bs us k us.length:=fun k hk=>by
  rw[i];exact if_pos hk
 have q:f (bs.length+us.length)=Wg.sumN us.length fun c=>cfs us po c*y (us.getD c .non):=by
  rw[i];show(if _ then _ else if _ then _ else _)=_;rw[if_neg (by omega),if_neg (by omega)]
 refine Y8 f ⟨fun k hk=>?_,?_⟩ (fun k hk=>?_) ?_
 . rw[w k hk,Wg.sumN_congr fun c hc=>by rw[<-x c hc]]
 . rw[q,Wg.sumN_congr fun c hc=>by rw[<-x c hc]]
 . have r:bs[k]?=some bs[k]:=yS hk;obtain⟨a0,a1,a2,a3,v,ha,hv⟩:=h.all (us:=us) (zJ hk);rw[w k hk,row k _ r,ha.a0,ha.a2,bp r,row_n.1,ha.v];have m1:=h.m1;rcases hv with⟨z0,z2,rfl,_⟩|⟨rfl,rfl,rfl,_⟩|⟨rfl,rfl|rfl,rfl,_⟩
   . have:=AD (by omega:0<= -a0) (by omega:0<=most)
     have:=AD (by omega:0<= -a2) (by omega:0<=25*most)
     rw[Ao]at*;omega
   . omega
   . omega
   . omega
 . obtain⟨c0,c1,c2,z⟩:=h.cv;have sO:lcmF 1 (po.map (·.2))=100:=h.sc.2.2.2;rw[q];have:=sum4 (F:=fun t=>cw 100 t po*y t) hu;rw[c0.O,c1.O,c2.O,z.O,p,y1,s,u]at this;unfold cfs;rw[sO,this];omega
def CC:Nat:=2^150
noncomputable def FL:List Fr:= [(-1,1),(1,1),(1,4),(-60,1),(-1,25),(9,1),(1,2),(-90,1),(-1,50),(3,1),(3,4),(-150,1),(1,50),(-6,1)]
theorem iy:∀f∈FL,((0 < f.2/\Int.gcd f.1 f.2=1)/\f.1.natAbs < 2^8/\f.2.natAbs < 2^8)/\f.1.natAbs<=150/\f.2.natAbs<=50/\f≠zero:=by decide
theorem Sm.fl(h:Sm p pz)(hz:pz.map (·.1)= [t0,t1,t2,t3])(hf:∀f∈pz.map (·.2),f=zero\/f∈FL):∀q∈p,q.1∈ [t0,t1,t2,t3]/\q.2∈FL:=fun q m=>by
 obtain⟨m1,n⟩:=h.mem.mp m;exact⟨by rw[<-hz];exact A6 (f:=(·.1)) m1,(hf _ (A6 (f:=(·.2)) m1)).resolve_left n⟩
theorem Bx.fl{st:Bool}{bs:List Bnd}(h:Bx t0 t1 t2 t3 most st bs p3 pA pB po):(∀b∈bs,(Asc b.ps/\(∀p∈b.ps,p.1∈ [t0,t1,t2,t3]/\p.2∈FL))/\(b.lim=(most,1)\/b.lim=zero)/\0 < scl b/\scl b<=100)/\∀p∈po,p.1∈ [t0,t1,t2,t3]/\p.2∈FL:=by
 obtain⟨s3,sA,sB,_⟩:=h.sc;refine⟨fun b m=>?_,h.sO.fl rfl (by decide:∀f∈(pzO .non .non .non .non).map (·.2),f=zero\/f∈FL)⟩
 have a:∀ {t:Tr},t∈ [t0,t1,t2,t3]->((Asc (nb t).ps/\(∀p∈(nb t).ps,p.1∈ [t0,t1,t2,t3]/\p.2∈FL))/\((nb t).lim=(most,1)\/(nb t).lim=zero)/\0 < scl (nb t)/\scl (nb t)<=100):=fun{t} c=>by
  rw[r9]
  exact⟨⟨List.pairwise_singleton _ _,fun p mp=>by
   rw[zq.mp mp]
   exact⟨c,(by decide:((-1,1):Fr)∈FL)⟩⟩, .inr rfl,by decide,by decide⟩
 have m:=(h.mem b).mp m;simp only[yY,zf,or_false]at m;rcases m with rfl|rfl|rfl|rfl|rfl|rfl|rfl
 . exact a (by simp)
 . exact a (by simp)
 . exact a (by simp)
 . exact a (by simp)
 . exact⟨⟨h.s3.asc,h.s3.fl rfl (by decide:∀f∈(pz3 .non .non .non .non).map (·.2),f=zero\/f∈FL)⟩, .inl rfl,by rw[s3];decide,by rw[s3];decide⟩
 . exact⟨⟨h.sA.asc,h.sA.fl rfl (by decide:∀f∈(pzA .non .non .non .non).map (·.2),f=zero\/f∈FL)⟩, .inr rfl,by rw[sA];decide,by rw[sA];decide⟩
 . exact⟨⟨h.sB.asc,h.sB.fl rfl (by decide:∀f∈(pzB .non .non .non .non).map (·.2),f=zero\/f∈FL)⟩, .inr rfl,by rw[sB];decide,by rw[sB];decide⟩
theorem Bx.gq{st:Bool}{bs:List Bnd}(h:Bx t0 t1 t2 t3 most st bs p3 pA pB po){p:Pq}(m1:p.1∈ [t0,t1,t2,t3])(m2:p.2∈FL):Gm [t0,t1,t2,t3] p.1/\Gq 8 p:=by
 obtain⟨a,b,c⟩:=h.tm _ m1;obtain⟨⟨d,e⟩,_⟩:=iy _ m2;exact⟨a,b,c,⟨d.1,e.1,e.2⟩,d⟩
theorem Bx.lim{st:Bool}{bs:List Bnd}(h:Bx t0 t1 t2 t3 most st bs p3 pA pB po){b:Bnd}(m:b∈bs):Gf 8 b.lim/\Sh b.lim/\b.lim.1.natAbs<=150/\b.lim.2.natAbs<=50:=by
 have m1:=h.m1;have m9:=h.m9;rcases(h.fl.1 b m).2.1 with e|e
 . rw[e];refine⟨⟨Int.one_pos,?_,(by decide:(1:Nat) < 2^8)⟩,⟨Int.one_pos,?_⟩,?_,(by decide:(1:Nat)<=50)⟩
   . show most.natAbs < 2^8;omega
   . show Nat.gcd most.natAbs 1=1;exact Nat.gcd_one_right _
   . show most.natAbs<=150;omega
 . rw[e];exact⟨jE (by decide),gi,by decide,by decide⟩
theorem Bx.gbd{st:Bool}{bs:List Bnd}(h:Bx t0 t1 t2 t3 most st bs p3 pA pB po):∀b∈bs,Gbd [t0,t1,t2,t3] 8 b:=fun b m=>by
 obtain⟨⟨a,f⟩,_⟩:=h.fl.1 b m;obtain⟨l1,l2,_⟩:=h.lim m;exact⟨a,fun p mp=>h.gq (f p mp).1 (f p mp).2,l1,l2⟩
theorem Bx.bz{st:Bool}{bs:List Bnd}(h:Bx t0 t1 t2 t3 most st bs p3 pA pB po):Bz bs 150 50 100 4 CC:=by
 refine⟨fun b m=>?_,fun b m=>?_,by decide,by decide,?_,?_,by decide +kernel,by decide +kernel,Nat.pow_lt_pow_right (by decide) (by decide)⟩
 . obtain⟨⟨a,f⟩,_⟩:=h.fl.1 b m;obtain⟨_,_,l1,l2⟩:=h.lim m;exact⟨Su.asc_len (T:= [t0,t1,t2,t3]) a fun p mp=>(f p mp).1,fun p mp=>⟨(iy _ (f p mp).2).2.1,(iy _ (f p mp).2).2.2.1⟩,l1,l2⟩
 . obtain⟨_,_,a,b'⟩:=h.fl.1 b m;omega
 . exact ze (by decide:50^(4+2) < 2^36) (zE (by decide) (by decide))
 . rcases h.len with e|e
   . rw[e];decide +kernel
   . rw[e];decide +kernel
theorem Bx.perm{st:Bool}{bs:List Bnd}(h:Bx t0 t1 t2 t3 most st bs p3 pA pB po)(tm:TmIn us bs):us.Perm [t0,t1,t2,t3]:=by
 refine(List.perm_ext_iff_of_nodup tm.1 h.nd).mpr fun x=>?_;rw[tm.2 x];constructor
 . rintro⟨b,m,p,mp,rfl⟩;exact((h.fl.1 b m).1.2 p mp).1
 . intro m
   have:nb x∈bs:=(h.mem _).mpr (by
    simp only[yY,zf,or_false]at m
    rcases m with rfl|rfl|rfl|rfl<;>simp)
   exact U5 (nb x) this _ yT rfl
theorem Bx.rb{st:Bool}{bs:List Bnd}(h:Bx t0 t1 t2 t3 most st bs p3 pA pB po)(us:List Tr):Rb bs.length us.length (Lf bs us) (cfs us po) CC:=by
 have c:∀j,(cfs us po j).natAbs<=15000:=fun j=>by
  have sO:lcmF 1 (po.map (·.2))=100:=h.sc.2.2.2;unfold cfs;rw[sO];exact tI (e:=8) (M:=150) fun p mp=>⟨(iy _ (h.fl.2 p mp).2).1.1.1,(iy _ (h.fl.2 p mp).2).2.1⟩
 refine⟨⟨150*100,h.bz.sz h.gbd us,fun j _=>c j,?_⟩,fun j _=>z7 (c j) (by decide +kernel),by decide +kernel,Nat.pow_lt_pow_right (by decide) (by decide)⟩
 rcases h.len with e|e
 . rw[e];decide +kernel
 . rw[e];decide +kernel
theorem Bx.low{st:Bool}{bs:List Bnd}(h:Bx t0 t1 t2 t3 most st bs p3 pA pB po){k:Nat}(hk:k < bs.length):0<=Lf bs us k us.length/\0<=Lf bs us k us.length+Lf bs us k (us.length+1)/\(st=false->Lf bs us k (us.length+1)=0):=by
 obtain⟨d,c,b,f,v,ha,hv⟩:=h.all (us:=us) (zJ hk);rw[bp (yS hk),row_n.1,row_n.2,ha.v];have m1:=h.m1;rcases hv with⟨_,_,e,a⟩|⟨_,_,e,a⟩|⟨_,_,e,a⟩
 . rw[e,a];exact⟨by decide,by decide,fun _=>rfl⟩
 . rw[e,a];cases st
   . exact⟨by omega,by show 0<=most+0;omega,fun _=>rfl⟩
   . exact⟨by omega,by show 0<=most+ -1;omega,fun z=>by cases z⟩
 . rw[e,a];exact⟨by decide,by decide,fun _=>rfl⟩
theorem uH(O:Okr m n L cf T):Hng m n L cf (fun k=>lno (m+1) n T k n) (fun k=>T.bot*L k n):=by
 have h1:=lT O 1;have h0:=lT O 0
 have e:∀k,lno (m+1) n T k n=Wg.pt (m+1) n 1 T k+ -1*Wg.pt (m+1) n 0 T k:=fun k=>by
  rw[<-jA,<-jA];omega
 have es:∀A:Nat->Int,(Wg.sumN n fun c=>A c*lno (m+1) n T (m+c) n)=(Wg.sumN n fun c=>A c*Wg.pt (m+1) n 1 T (m+c))+ -1*Wg.sumN n fun c=>A c*Wg.pt (m+1) n 0 T (m+c):=fun A=>by
  rw[<-Wg.sumN_mul,<-Wg.sumN_add];exact Wg.sumN_congr fun c _=>by rw[e];grind
 refine⟨fun k hk=>?_,?_⟩
 . show lno _ _ _ _ _=(Wg.sumN n fun c=>L k c*lno (m+1) n T (m+c) n)+_;rw[es (L k),e,h1.sl k hk,h0.sl k hk];grind
 . show lno _ _ _ _ _=Wg.sumN n fun c=>cf c*lno (m+1) n T (m+c) n;rw[es cf,e,h1.o,h0.o]
theorem xi(O:Okr m n L cf T){k:Nat}(hk:k < m):0<=lno (m+1) n T k n:=by
 rcases O.pm.cov (k:=k) (by omega)with⟨i,hi,rfl⟩|⟨c,hc,rfl⟩
 . rw[jz O.pm hi];have:=O.nn i hi hk;unfold Ngv at this;omega
 . rw[eE fun i hi e=>O.pm.disj hi hc e,if_neg (by omega)]
   exact Al _
theorem yD(O:Okr m n L cf T)(c:Nat):lno (m+1) n T (m+n) c=T.ln m c:=by
 rw[<-O.so];exact jz O.pm (zG m)
theorem Okr.hcs(O:Okr m n L cf T){s:Nat->Int}{b:Int}(h:Hng m n L cf s fun k=>b*L k n):sumL s (K46.hcs n T m)=b*T.ln m n - T.bot*s (m+n):=by
 have r:=O.row (s:=s) (b:=b) (e:=0) ⟨fun k hk=>by rw[h.sl k hk];omega,h.o⟩ (zG m)
 rw[O.so]at r;rw[k7]
 have:(Wg.sumN n fun c=> -T.ln m c*s (T.hd c))= -1*Wg.sumN n fun c=>T.ln m c*s (T.hd c):=by
  rw[<-Wg.sumN_mul];exact Wg.sumN_congr fun c _=>by grind
 rw[this];omega
theorem dW{F G:Nat->Int}:∀ {cs:List (Nat×Int)},(∀p∈cs,F p.1=G p.1)->sumL F cs=sumL G cs
 | [],_=>rfl
 |p::r,h=>by
  simp only[sumL];rw[h p yT,dW fun q m=>h q (yU _ m)]
theorem Okr.hcs_ok(O:Okr m n L cf T)(no:∀c,c < n->¬Rsg m m T c):(∀p∈K46.hcs n T m,p.1 < m/\0 < p.2)/\((K46.hcs n T m).map (·.1)).Nodup/\(∀c,c < n->sumL (fun k=>L k c) (K46.hcs n T m)= -(T.bot*cf c))/\sumL (fun k=>L k n) (K46.hcs n T m)=T.ln m n:=by
 have hp:∀p∈K46.hcs n T m,p.1 < m/\0 < p.2:=fun p mp=>by
  obtain⟨c,hc,z,rfl⟩:=jv mp;have:=no c hc;unfold Rsg at this;dsimp only;omega
 refine⟨hp,?_,fun c hc=>?_,?_⟩
 . unfold K46.hcs;rw[Aj];show(List.map (fun c=>T.hd c) _).Nodup;rw[Ag,List.pairwise_map];have:((List.range n).filter fun c=>decide (T.ln m c≠0)).Nodup:=List.nodup_range.filter _;rw[Ag]at this;refine List.Pairwise.imp_of_mem (fun{a b} ma e h z=>h ?_) this;exact O.pm.injh (zZ.mp (zC.mp ma).1) (zZ.mp (zC.mp e).1) z
 . have r:=O.hcs (s:=fun k=>if k < m then L k c else if k=m+n then cf c else if k=m+c then 1 else 0) (b:=0) ⟨fun k hk=>?_,?_⟩
   . rw[dW (G:=fun k=>L k c) fun p mp=>if_pos (hp p mp).1]at r;rw[r,if_neg (by omega),if_pos rfl]
     omega
   . rw[if_pos hk,Wg.sumN_one hc fun j d hne=>by rw[if_neg (by omega),if_neg (by omega),if_neg (by omega),zm],if_neg (by omega),if_neg (by omega),if_pos rfl]
     omega
   . rw[if_neg (by omega),if_pos rfl,Wg.sumN_one hc fun j d hne=>by rw[if_neg (by omega),if_neg (by omega),if_neg (by omega),zm],if_neg (by omega),if_neg (by omega),if_pos rfl,Int.mul_one]
 . have r:=O.hcs (s:=fun k=>if k < m then L k n else 0) (b:=1) ⟨fun k hk=>?_,?_⟩
   . rw[dW (G:=fun k=>L k n) fun p mp=>if_pos (hp p mp).1]at r;rw[r,if_neg (by omega)]
     omega
   . rw[if_pos hk,Wg.sumN_zero fun j d=>by rw[if_neg (by omega),zm]]
     omega
   . rw[if_neg (by omega),Wg.sumN_zero fun j d=>by rw[if_neg (by omega),zm]]
open Fm
theorem yL{b:Int}(h:b≠0):(fx t b).natAbs<=t.natAbs/\(fy t b).natAbs<=b.natAbs:=by
 have a:0 < (Int.gcd t b:Int):=by
  have:=zB t h;omega
 by_cases n:b < 0
 . unfold fx fy dv;rw[if_pos n];refine⟨?_,?_⟩
   . rw[<-Int.neg_neg t,Int.neg_fdiv_neg,zO _ (by omega),Int.neg_neg]
     exact z7 (cu _ _) (by rw[A4];exact yV _)
   . rw[<-Int.neg_neg b,Int.neg_fdiv_neg,zO _ (by rw[Int.neg_neg];omega),Int.neg_neg]
     exact z7 (cu _ _) (by rw[A4];exact yV _)
 . unfold fx fy dv;rw[if_neg n,zO _ (by omega),zO _ (by omega)]
   exact⟨cu _ _,cu _ _⟩
theorem vI{b:Int}(h:0 < b)(h1:t.natAbs<=CC*100)(h2:b.natAbs<=CC*100):Sh ((fx t b,fy t b):Fr)/\Gf 160 ((fx t b,fy t b):Fr):=by
 have sh:Sh ((fx t b,fy t b):Fr):=cF (by omega)
 obtain⟨a,c⟩:=yL (t:=t) (b:=b) (by omega)
 have l:CC*100 < 2^160:=by decide +kernel
 exact⟨sh,sh.1,zk (z7 a h1) l,zk (z7 c h2) l⟩
theorem HOut.told{st:Bool}{bs:List Bnd}{Tb:Wg.Tb}{G:Tr->Fr}(hx:Bx t0 t1 t2 t3 most st bs p3 pA pB po)(h:HOut P w K T0 H H' bs po r us Tb G):∃wk,Told P w K H' r bs po (low most 20) (!st) us G wk:=by
 have O:=h.ok;have no:=h.no;have hu:=hx.perm h.tm;have ul:us.length=4:=hu.length_eq;refine hZq fun q_ e_=>?_;obtain⟨W,hc,hs⟩:=hx.crt hu;obtain⟨f,hf,f0,fo⟩:=hx.feas hu;obtain⟨bb,bl⟩:=(hx.rb us).bnd O.inv O.pm;obtain⟨eq,ne⟩:=hc.top O no bl (by decide) hf f0 fo
 have sO:sca po=100:=hx.sc.2.2.2;have b0:=O.inv.pos;have y:0 < Tb.bot*sca po:=by rw[sO];omega
 have gbd:=hx.gbd;obtain⟨rf,l,d,ws2,us2,hr,bC,hl,bj,pm,bi,hD⟩:=h.ex;have loose:st=false->∀i,i < bs.length+1->Tb.ln i (us.length+1)=0:=fun e i hi=>O.loose (fun k hk=>(hx.low hk).2.2 e) hi;have tight:st=true->Tb.ln bs.length (us.length+1)≠0:=fun e=>ne (by rw[hs,e];decide)
 have re:decide (Tb.ln bs.length (us.length+1)=0)= !st:=by
  cases e:st with
  |false=>exact decide_eq_true (loose e _ (zG _))
  |true=>exact decide_eq_false (tight e)
 have nb:=dQ b0;have gn:=dQ y;have r5:(((5*most:Int):Rat))=5*(most:Rat):=by rw[Rat.intCast_mul];rfl
 have v:rv (low most 20)=(most:Rat) / 20:=jk (by decide)
 have vf:((fx (Tb.ln bs.length us.length) (Tb.bot*sca po),fy (Tb.ln bs.length us.length) (Tb.bot*sca po)):Fr)=low most 20:=by
  refine fu (cF (by omega)) (fm (by decide)) ?_
  rw[du y,v,eq,sO];simp only[Rat.intCast_mul];rw[Rat.div_def,Rat.div_def];have e5:((5:Int):Rat)=5:=rfl;have q:((100:Int):Rat)=100:=rfl;rw[e5,q];grind
 obtain⟨aA,a2,bv,bg⟩:=O.hcs_ok no;obtain⟨qs,rfl,pq⟩:=f8 pm rfl
 have bP:qs.length<=us.length:=by
  rw[pq.length_eq,yR];exact oi
 have cl:∀p∈hcs us.length Tb bs.length,p.1 < bs.length:=fun p mp=>(aA p mp).1
 have mq:∀k∈qs,∃p∈hcs us.length Tb bs.length,k=(p.1,wf (bs.map scl) (Tb.bot*sca po) p):=fun k mk=>by
  obtain⟨p,mp,e⟩:=zr.mp (pq.mem_iff.mp mk);exact Y3 p mp e.symm
 have a0:∀p∈hcs us.length Tb bs.length,0 < (bs.map scl).getD p.1 0/\((bs.map scl).getD p.1 0).natAbs<=100:=fun p mp=>by
  rw[z8,yW,yS (cl p mp)];refine hZq fun q_ e_=>?_;obtain⟨_,_,a,c⟩:=hx.fl.1 _ (zJ (cl p mp));subst e_;show 0 < scl _/\(scl _).natAbs<=100;exact⟨a,by omega⟩
 have gB:(Tb.bot*sca po).natAbs<=CC*100:=by
  rw[sO,zA];exact Am _ bb
 have bF:∀k∈qs,Sh k.2/\Gf 160 k.2/\0 < k.2.1:=fun k mk=>by
  refine hZq fun q_ e_=>?_;obtain⟨p,mp,rfl⟩:=mq k mk;obtain⟨c,ao,z,ep⟩:=jv mp
  have pb:p.2.natAbs<=CC:=by
   rw[ep];show(-Tb.ln bs.length c).natAbs<=CC;rw[A4];exact bl _ c (zG _) (by omega)
  obtain⟨sh,gf⟩:=vI (t:=p.2*(bs.map scl).getD p.1 0) y (by
   rw[zA]
   exact AB pb (a0 p mp).2) gB
  subst e_;refine⟨sh,gf,(uj sh.1).mp ?_⟩;show 0 < rv ((fx _ _,fy _ _):Fr);rw[du y,Rat.div_def];exact Rat.mul_pos (fj (Au (aA p mp).2 (a0 p mp).1)) (Rat.inv_pos.mpr (fj y))
 have n:∀p∈po,p.1∈us:=fun p mp=>hu.mem_iff.mpr (hx.fl.2 p mp).1
 have gb:∀b∈bs,Gb us 8 (ofB b):=fun b m=>by
  refine hZq fun q_ e_=>?_;obtain⟨⟨a,fl⟩,_⟩:=hx.fl.1 b m;obtain⟨l1,l2,_⟩:=hx.lim m;subst e_;exact⟨a,fun p mp=>hu.mem_iff.mpr (fl p mp).1,fun p mp=>(hx.gq (fl p mp).1 (fl p mp).2).2,l2,l1⟩
 have bI:∀b∈bs.map ofB,Gb us 8 b:=fun b m=>by
  obtain⟨x,mx,rfl⟩:=zr.mp m;exact gb x mx
 have pd:∀p∈po,0 < p.2.2/\p.2.2∣sca po:=fun p mp=>by
  rw[sO];exact(by decide:∀f∈(pzO .non .non .non .non).map (·.2),0 < f.2/\f.2∣ (100:Int)) _ (A6 (f:=(·.2)) (hx.sO.mem.mp mp).1)
 have a4:∀t,Su.tot t (aZ (bs.map ofB) qs)=Su.tot t po:=fun t=>by
  by_cases mu:t∈us
  . rw[iz pq];obtain⟨c,ao,ec⟩:=Ac mu;have aB:us[c]?=some t:=by rw[yS ao,ec]
    have fr:=oj gbd y aB cl;rw[bv c ao]at fr
    have a5:cfs us po c=cw (sca po) t po:=by
     unfold cfs;rw[z8,aB];rfl
    have tc:=lG (s:=sca po) (t:=t) hx.sO.asc pd;rw[a5]at fr;simp only[Rat.intCast_neg,Rat.intCast_mul]at fr;rw[tc]at fr;rw[Rat.intCast_mul]at gn;have n2:((sca po:Int):Rat)≠0:=by rw[sO];decide
    grind
  . rw[dm fun p mp e=>mu ?_,dm fun p mp e=>mu ?_]
    . rw[<-e];exact n p mp
    . rw[<-e]
      exact kM bI (fun k mk=>by
       obtain⟨p,mp,rfl⟩:=mq k mk;rw[yR]
       exact cl p mp) p mp
 have a3:totR (bs.map ofB) qs=rv (low most 20):=by
  rw[oJ pq];have fr:=mP (us:=us) gbd y cl;rw[bg]at fr;rw[<-vf,du y,Rat.div_def,<-fr];grind
 obtain⟨x,ex⟩:∃x:Nat->Int,x=fun c=>lno (bs.length+1) us.length Tb (bs.length+c) us.length:=⟨_,rfl⟩;subst e_;have a1:=uH O
 have xb:∀c,(x c).natAbs<=CC*100:=fun c=>by
  rw[ex];exact z7 (lZ O.pm bb bl (by omega)) (by decide +kernel)
 have bB:Tb.bot.natAbs<=CC*100:=z7 bb (by decide +kernel)
 have hG:∀j u,us[j]?=some u->G u=(fx (x j) Tb.bot,fy (x j) Tb.bot):=fun j u e=>by
  rcases h.g with⟨z,M,m1,ai⟩|⟨_,ai⟩
  . have sf:st=false:=by
     cases e:st with
     |false=>rfl
     |true=>exact absurd z (tight e)
    have l0:lno (bs.length+1) us.length Tb (bs.length+j) (us.length+1)=0:=by
     unfold lno;rw[if_neg (by omega),Wg.sumN_zero fun i hi=>?_]
     . rfl
     . split
       . exact loose sf i hi
       . rfl
    have ep:Wg.pt (bs.length+1) us.length M Tb (bs.length+j)=x j*M:=by
     rw[<-jA,l0,ex];exact Ap _
    have D0:0 < Tb.bot*M:=Au b0 (by omega)
    rw[ai j u e,ep];refine fu (cF (by omega)) (cF (by omega)) ?_
    rw[du D0,du b0];have Mn:=dQ (show 0 < M by omega)
    simp only[Rat.intCast_mul];rw[Rat.div_def,Rat.div_def];grind
  . rw[ai j u e,ex]
 have aT:∀t∈us,((x (Fm.ix us t):Int):Rat)=gw us G t*((Tb.bot:Int):Rat):=fun t mt=>by
  unfold gw;rw[if_pos mt,hG _ _ (kG mt),du b0,Rat.div_def];grind
 have met:∀b∈bs,lin (gw us G) b.ps<=rv b.lim:=fun b mb=>by
  refine hZq fun q_ e_=>?_;obtain⟨k,hk,ek⟩:=Ac mb;have aC:bs[k]?=some b:=by rw[yS hk,ek]
  have g:=gbd b mb;obtain⟨s0,sd,ld⟩:=g.scl_ok;subst e_;have e0:=a1.sl k hk;have nn:=xi O hk
  have e1:(Wg.sumN us.length fun c=>Lf bs us k c*lno (bs.length+1) us.length Tb (bs.length+c) us.length)= -1*linI (scl b) (fun t=>x (Fm.ix us t)) b.ps:=by
   rw[<-lM h.tm.1 g.asc (fun p mp=>(gb b mb).mem p mp) (X:=x),<-Wg.sumN_mul,bp aC];refine Wg.sumN_congr fun c hc=>?_;rw[iK hc,ex];grind
  rw[e1,bp aC,row_n.1]at e0;have lr:=jC (s:=scl b) (x:=fun t=>x (Fm.ix us t)) (g:=gw us G) (D:=((Tb.bot:Int):Rat)) (ps:=b.ps) (fun p mp=>⟨(g.ps p mp).2.gf.pos,sd p mp⟩) fun p mp=>aT p.1 ((gb b mb).mem p mp);have wr:=mL (s:=scl b) g.lim.pos ld
  have key:((linI (scl b) (fun t=>x (Fm.ix us t)) b.ps:Int):Rat)<=((Tb.bot*wh b.lim (scl b):Int):Rat):=by
   have:linI (scl b) (fun t=>x (Fm.ix us t)) b.ps<=Tb.bot*wh b.lim (scl b):=by omega
   exact_mod_cast this
  rw[lr,Rat.intCast_mul,wr]at key;have S0:=fj s0;have B0:=fj b0;have A0:(0:Rat) < (scl b:Rat)*(Tb.bot:Rat):=Rat.mul_pos S0 B0;refine Rat.not_lt.mp fun z=>?_;have:=Rat.mul_lt_mul_of_pos_left z A0;have e3:(scl b:Rat)*(Tb.bot:Rat)*rv b.lim=(Tb.bot:Rat)*(rv b.lim*(scl b:Rat)):=by grind
  rw[e3]at this;exact absurd key (Rat.not_le.mpr this)
 have lo:lin (gw us G) po=rv (low most 20):=by
  have e0:=a1.o
  have e1:(Wg.sumN us.length fun c=>cfs us po c*lno (bs.length+1) us.length Tb (bs.length+c) us.length)=linI (sca po) (fun t=>x (Fm.ix us t)) po:=by
   rw[<-lM h.tm.1 hx.sO.asc n (X:=x)];exact Wg.sumN_congr fun c hc=>by rw[ex];rfl
  rw[e1,yD O,eq]at e0;have lr:=jC (s:=sca po) (x:=fun t=>x (Fm.ix us t)) (g:=gw us G) (D:=((Tb.bot:Int):Rat)) (ps:=po) pd fun p mp=>aT p.1 (n p mp);rw[<-e0,sO,v]at*;simp only[Rat.intCast_mul]at lr;have e5:((5:Int):Rat)=5:=rfl;have q:((100:Int):Rat)=100:=rfl;rw[e5,q]at lr;rw[Rat.div_def];grind
 have m1:=hx.m1;have m9:=hx.m9
 have bw:∀t∈us,Gf 160 (G t):=fun t mt=>by
  rw[hG _ _ (kG mt)];exact(vI b0 (xb _) bB).2
 have au:(qs.map (·.1)).Nodup:=by
  rw[(pq.map (·.1)).nodup_iff,Aj];exact a2
 refine⟨qs,⟨(O9 rf l d ws2 (by rw[<-re];exact hr) (by rw[<-vf];exact bC) hl bj hD),by omega,by omega,?_,fun k mk=>?_,bF,a4,a3,bw,gb,met,fun e b mb=>?_,lo,⟨hx.sO.asc,fun p mp=>⟨(hx.gq (hx.fl.2 p mp).1 (hx.fl.2 p mp).2).2,n p mp,(iy _ (hx.fl.2 p mp).2).2.2.2⟩⟩,fm (by decide),(mh (e:=8) (by decide) (by show most.natAbs < 2^8;omega) (by show(20:Nat) < 2^8;decide +kernel)).mono (by decide)⟩⟩
 . rw[Ag,List.pairwise_map]at au;rw[A7]at au ⊢;intro a b ha hb a6;have ne:=au a b ha hb a6;have le:=bi a b (wtT qs[a]) (wtT qs[b]) (by omega) (by rw[yW,yS ha];rfl) (by rw[yW,yS hb];rfl)
   refine Classical.byContradiction fun z=>?_;have:=yB (a:=qs[b]) (b:=qs[a]) (by omega)
   rw[this]at le;cases le
 . obtain⟨p,mp,rfl⟩:=mq k mk;exact cl p mp
 . have sf:st=false:=by
    cases z:st with
    |false=>rfl
    |true=>rw[z]at e;cases e
   refine hZq fun q_ e_=>?_;obtain⟨_,_,_,_,_,_,hv⟩:=hx.all (us:=us) mb;subst e_;rcases hv with⟨_,_,_,e⟩|⟨_,_,_,e⟩|⟨_,_,_,e⟩
   . exact e
   . exact e.trans sf
   . exact e
end K46
namespace L2
open PySem Tre
theorem FH.b4{n:Str}{st:Stmt}{y z u:Str}(h:FH K n st f fd)(hb:∀(kV doc pm:Value) (an:Option Addr) (cdv ct a b c d:Value),bindArgs (PySem.W.fnOf n n (bc st) (aP st) (af st) .none kV doc pm an cdv ct) ⟨[a,b,c,d],[]⟩=pure [(x,a),(y,b),(z,c),(u,d)]:=by intros;rfl):Binds K fd [x,y,z,u] []:=h.b fun _ _ _ _ _ _ us hl=>match us,hl with| [_,_,_,_],_=>hb _ _ _ _ _ _ _ _ _ _
noncomputable def asgV:Stmt->Expr
 | .Assign _ v _=>v
 |_=> .Constant .none 0 ⟨0,0,0,0⟩
noncomputable def asgW(s:Stmt)(L:Expr):Stmt:=match s with
 | .Assign ts _ p=> .Assign ts L p
 |s=>s
theorem oK{L:Expr}{ts:List Tr}(h:litL n L=some ts){tg:Option Expr}:swapsWith L tg line env=pure false:=by
 unfold litL at h;split at h
 . rfl
 . cases h
end L2
namespace K46
open PySem L2 Mth Tre Wd Su
abbrev tN(x:String):Tr:= .tup [.str (Str.ofString "name"), .str (Str.ofString x)]
noncomputable def T4:List Tr:= [tN "one",tN "on", .tup [.str (Str.ofString "call"), .str (Str.ofString "f"), .tup [tN "one"]],tN "zz"]
theorem nmOk(x:String)(h:(decide (0 < (Str.ofString x).length)&&decide ((Str.ofString x).length<=8)&& (Str.ofString x).cps.toList.all fun c=>decide (97<=c/\c<=122))=true):Tw.Nm (Str.ofString x):=by
 simp only[AE,decide_eq_true_eq,List.all_eq_true]at h;exact⟨h.1.1,h.1.2,fun c m=>h.2 c m⟩
theorem vL:∀t∈T4,(Fm.Gt t/\t.depth<=39/\(Tw.tmC t).length<=1000)/\Ty .tm t/\t.depth<=7:=by
 have h1:=nmOk "one" (by decide +kernel)
 have h2:=nmOk "on" (by decide +kernel)
 have h3:=nmOk "zz" (by decide +kernel)
 have a:=nmOk "f" (by decide +kernel)
 intro t m;simp only[T4,yY,zf,or_false]at m;rcases m with rfl|rfl|rfl|rfl
 . exact⟨⟨.nm _ h1,by simp[Tr.depth,Trs.depth],by decide +kernel⟩, .nm _,by simp[Tr.depth,Trs.depth]⟩
 . exact⟨⟨.nm _ h2,by simp[Tr.depth,Trs.depth],by decide +kernel⟩, .nm _,by simp[Tr.depth,Trs.depth]⟩
 . refine⟨⟨.ap _ _ a (by decide) (by decide) ?_,by simp[Tr.depth,Trs.depth],by decide +kernel⟩, .ap _ _ (by decide) ?_,by simp[Tr.depth,Trs.depth]⟩
   . simp only[yY,zf,or_false];rintro t rfl;exact .nm _ h1
   . simp only[yY,zf,or_false];rintro t rfl;exact .nm _
 . exact⟨⟨.nm _ h3,by simp[Tr.depth,Trs.depth],by decide +kernel⟩, .nm _,by simp[Tr.depth,Trs.depth]⟩
theorem yQ:T4.Nodup:=by
 have cl:∀ {x y:String},(Str.ofString x).cps.toList≠(Str.ofString y).cps.toList->Str.ofString x≠Str.ofString y:=fun h e=>h (by rw[e])
 have h1:Str.ofString "one"≠Str.ofString "on":=cl (by decide +kernel)
 have h2:Str.ofString "one"≠Str.ofString "zz":=cl (by decide +kernel)
 have h3:Str.ofString "on"≠Str.ofString "zz":=cl (by decide +kernel)
 simp[T4,h1,h2,h3]
def nj(K:PySem.W.Frag)(T0:Addr):Sp:=fun vs H Q _=>∃(a:Addr) (ns:List Int),vs= [.ref a]/\SqL K H a (ns.map V.int)/\ns.length<=63/\Lm T0 H/\∀H',Q (.bl true) H'
noncomputable def nLa:List Str:= ["_law_script","_law_some","_law_terms","_law_most","_law_asked","_law_value_here","_law_strict","_law_bounds_here"]
theorem scL:FnScope nLa ["_law_script"] (af sLaw):= .of
noncomputable abbrev bdL(i:Nat):Stmt:=(aP sLaw).getD i (.Pass ⟨0,0,0,0⟩)
theorem xk:aP sLaw=asgW (bdL 0) (asgV (bdL 0))::(aP sLaw).drop 1:=rfl
theorem xo:litL 9 (asgV (bdL 0))=some T4:=rfl
theorem wU(F:Fun K "law" "law" sLaw f fd)(B:Blt mg)(zD:Cl P w K mg base 1 "_law_draw" ["_law_script","_law_k","_law_many"] (gQ K))(zL:Cl P w K mg base 1 "_law_least" ["_law_top","_law_bottom"] ka)(zW:Cl P w K mg base 1 "_law_whole" ["_law_terms","_law_shares"] ke)(zM:Cl P w K mg base 2 "_law_mixed" ["_law_script","_law_base","_law_some"] (mY K))(zBo:Cl P w K mg base 3 "_law_bounds" ["_law_script","_law_terms","_law_most","_law_strict"] (gR K))(zGo:Cl P w K mg base 4 "_law_good" ["_law_bounds_here","_law_asked","_law_found","_law_value_here","_law_reached"] (lO P w K))(zHi:Cl P w K mg base 44 "highest" ["bounds","asked"] (qZ P w K T0)):
 FnOk P w K mg base CX0 45 f fd ["_law_script"] (nj K T0):=by
 refine F.okb scL fun vs H Q E h=>?_;refine hZq fun q_ e_=>?_;obtain⟨a,ns,rfl,hS,a3,dn,k⟩:=h;subst e_;refine⟨rfl,fun d7 A outer s hr=>?_⟩;have eB:=xk;have e1:=xo;rw[eB];clear eB;generalize asgV (bdL 0)=L1 at e1 ⊢;have bj:Room 1 _:=hr.mono (by omega)
 have cr:Room 2 _:=hr.mono (by omega)
 have cn:Room 3 _:=hr.mono (by omega)
 have dI:Room 4 _:=hr.mono (by omega)
 have nd:=scL.nd
 refine Y3 _ (ac (psA 1 nd (f9 9 e1) rfl rfl (oK e1))
  (ac (psA 2 nd (ak zM cr (a7 (pv 0) (a7 ad (a7 (pv 1) a9)))))
  (ac (psA 3 nd (av c9 ad (ak zD bj (a7 (pv 0) (a7 ad (a7 ad a9))))))
  (ac (psA 4 nd (ak zW bj (a7 (pv 2) (a7 (f9 9 (ts:=(pzO .non .non .non .non).map fun p=>frT p.2) rfl) a9))))
  (ac (psA 5 nd (ak zL bj (a7 (pv 3) (a7 ad a9))))
  (ac (bV PassesOwn.never rfl (bn (bW (a7 cV (a7 cV a9)))) (pgA 6 nd)
   (ac (psA 7 nd (ak zBo cn (a7 (pv 0) (a7 (pv 2) (a7 (pv 3) (a7 (pv 6) a9))))))
   (ag (bS (jo (cC (ak zGo dI (a7 (pv 7) (a7 (pv 4) (a7 (ak zHi hr (a7 (bO dg rfl B.li PyProof.Rows.boot_list (a7 (pv 7) a9)) (a7 (pv 4) a9))) (a7 (pv 5) (a7 (w9 (pv 6)) a9)))))))) (ag (aD cV)) aS))))
  (ag (aD cV)))))))) ?_
 have d4:(20000:Nat)<=sizeLine:=by decide +kernel
 intro l ws H1 s1 nl hl hT;have wl:=hT.len;have t4:T4.length=4:=rfl;refine ah ?_
 try dsimp only
 refine Y3 _ rfl (Y9 _ rfl a ns 10 l ws rfl (SqL.same s1 hS) a3 (by decide) (by decide) ⟨hl,by omega,fun lt ys H2 nr s2 a6 pm=>?_⟩)
 refine hZq fun q_ e_=>?_;obtain⟨vs,bi,pv⟩:=jY pm (hT.mono (Kd.of_same s2));have vl:=pv.length_eq
 obtain⟨t0,t1,t2,t3,rfl⟩:∃t0 t1 t2 t3,vs= [t0,t1,t2,t3]:=by
  match vs,vl with
  | [t0,t1,t2,t3],_=>exact(Y6 t0 t1 t2 t3 rfl)
 subst e_;have a5: [t0,t1,t2,t3].Nodup:=pv.nodup_iff.mpr yQ;have bI:∀t∈ [t0,t1,t2,t3],Ty .tm t/\t.depth<=7:=fun t m=>(vL t (pv.mem_iff.mp m)).2
 have c4:∀t∈ [t0,t1,t2,t3],Gm [t0,t1,t2,t3] t/\Ty .tm t/\t.depth<=7:=fun t m=>by
  refine hZq fun q_ e_=>?_;obtain⟨⟨b1,b2,b3⟩,b4⟩:=vL t (pv.mem_iff.mp m);subst e_;exact⟨⟨b1,b2,b3,m⟩,b4⟩
 have u:=s1.trans s2;refine ah ?_
 try dsimp only
 refine Y2 _ rfl a ns 1 9 ⟨rfl,SqL.same u hS,a3,by decide,by decide,by decide,fun d d0 d9 _=>Y5 1 d rfl rfl ?_⟩
 obtain⟨most,em⟩:∃most:Int,most=1+d:=⟨_,rfl⟩;dsimp only;rw[<-em];refine ah ?_
 try dsimp only
 refine Y3 _ rfl (fun r1 v1 H4 s4 n1 h1 T1=>?_);refine O7 lt r1 ys v1 (pzO t0 t1 t2 t3) 8 rfl (s4 _ _ a6) (bi.mono (Kd.of_same s4)) h1 ⟨T1,rfl,a5,gq4 bI (by decide),fun va po H5 s5 bP asc c2=>?_⟩
 refine ah ?_
 try dsimp only
 have bg:Big (Int.gcd most 20:Int):=dR (by unfold Big;exact ze (show(20:Nat) < 2^8 by decide) (zE (by decide) (by decide))) (by decide)
 refine U6 _ rfl most 20 rfl (by decide) bg (fun rv' H6 cd e6=>?_)
 subst e6;have s6:=aa (o:= .tup [.int (low most 20).1, .int (low most 20).2]) cd;have bw:=a8 (H:=H5) (a:=rv') (o:= .tup [.int (low most 20).1, .int (low most 20).2]);have bv:=(s4.trans s5).trans s6;have y:=bP.mono (Kd.of_same s6);generalize upd H5 rv' (.tup [.int (low most 20).1, .int (low most 20).2])=H6 at s6 bw bv y ⊢;refine ah ?_
 try dsimp only
 refine⟨two,fun lf cm=>?_⟩;have s7:=aa (o:= .lst [.bl false, .bl true]) cm;have a4:=a8 (H:=H6) (a:=lf) (o:= .lst [.bl false, .bl true]);have au:=bv.trans s7;have bb:=u.trans au;have a2:=au _ _ a6;have a1:=bi.mono (Kd.of_same au);have aC:=y.mono (Kd.of_same s7);have aT:=s7 _ _ bw;have v:=dn.same bb;have bC:=SqL.same bb hS;generalize upd H6 lf (.lst [.bl false, .bl true])=H7 at a4 a2 a1 aC aT v bC ⊢;clear bb au s7 bv s6 y bw s4 s5 n1 h1 T1 bP cd cm a6 bi u hT;obtain⟨d8,aA⟩:=v.tbl;have kp:∀ {H':Hp},ButT T0 H7 H'->∀ {x:Addr} {o:HO},H7 x=some o->(∀p,o≠ .tbl p)->H' x=some o:=fun{H'} b {x o} e q=>b _ _ (fun z=>by rw[z,aA]at e;exact q _ (z9 e).symm) e
 refine Y8 lf rfl ⟨_,SqL.of a4⟩ ?_
 refine dD (xs:= [.bl false, .bl true]) (fun i σ H'=>ButT T0 H7 H'/\Lm T0 H'/\∃v6 v7:Option V,σ= [some (.ref a),some (.ref l),some (.ref lt),some (.int most),some va,some (.ref rv'),v6,v7])
  ⟨fun x o _ e=>e,v,Y4 none none rfl⟩ (fun i σ H' _ p=>SqL.of (kp p.1 a4 (by intro p z;cases z))) ?_ ?_
 . intro i x σ H8 ex z_;refine hZq fun q_ e_=>?_;obtain⟨b8,a0,v6,v7,rfl⟩:=z_
   obtain⟨st,rfl⟩:∃st,x= .bl st:=by
    have m:=z5 ex;simp only[yY,zf,or_false]at m;rcases m with rfl|rfl
    . exact⟨_,rfl⟩
    . exact⟨_,rfl⟩
   subst e_;have c8:=gF aA b8;refine ah ?_
   try dsimp only
   have S8:SqL K H8 a (ns.map V.int):=SqL.butT aA b8 bC;refine Y3 _ rfl (U5 _ rfl _ rfl (U7 _ rfl a ns lt ys t0 t1 t2 t3 most st ⟨rfl,S8,a3,kp b8 a2 (by intro p z;cases z),a1.mono c8,a5,bI,by omega,by omega,fun rb bvs bs H9 s9 eb b7 hB d3=>?_⟩))
   refine hZq fun q_ e_=>?_;obtain⟨p3,pA,pB,hx⟩:=d3.bx (by omega) (by omega) c4 a5 asc c2
   subst e_
   have hW:∀us,TmIn us bs->∃W,Crt bs.length us.length (Lf bs us) (cfs us po) W (5*most):=fun us tm=>by
    obtain⟨W,hc,_⟩:=hx.crt (hx.perm tm);exact⟨W,hc⟩
   have bl:1<=bs.length/\bs.length<=8:=by have:=hx.len;omega
   have d5:po.length<=4:=Su.asc_len (T:= [t0,t1,t2,t3]) hx.sO.asc fun p mp=>(hx.fl.2 p mp).1;refine ah ?_
   try dsimp only
   refine U5 _ rfl _ rfl (U9 _ rfl rb bvs rfl (.inl (SqL.of b7)) (fun p np=>?_));have sp:=aa (o:= .lst bvs) np;have hp:=a8 (H:=H9) (a:=p) (o:= .lst bvs);have bB:ButT T0 H7 (upd H9 p (.lst bvs)):=fun x o n e=>sp _ _ (s9 _ _ (b8 x o n e));have ao:=hB.mono (Kd.of_same sp);have r:=(a0.same s9).same sp;have g:=sp _ _ b7;generalize upd H9 p (.lst bvs)=d6 at sp hp bB ao r g ⊢;have ai:=aC.mono (gF aA bB);refine U7 _ rfl p va bvs bs po ([t0,t1,t2,t3]) 8 150 50 100 (Y4 4 CC ⟨rfl,hp,ao,ai,hx.gbd,hx.sO.asc,fun q mq=>hx.gq (hx.fl.2 q mq).1 (hx.fl.2 q mq).2,by decide,by show 4 < 60;decide,bl.1,by omega,by omega,by decide,hx.bz,r,fun q mq=>(iy _ (hx.fl.2 q mq).2).2.2.1,?_,?_,fun q mq=>?_,fun us tm=>⟨hx.rb us,fun Tb j O hj hs hn dV=>O.meets (fun kk b6=>⟨(hx.low b6).1,(hx.low b6).2.1⟩) hj hs hn dV,fun Tb c O hc dj hl'=>?_⟩,fun c3 dl us Tb G ho=>?_⟩)
   . exact zk (zE (by decide) (show po.length+1<=5 by omega)) (ze (by decide:50^5 < 2^32) (zE (by decide) (by decide)))
   . rw[hx.sc.2.2.2];exact z7 (by decide +kernel:(100:Int).natAbs<=CC) (Nat.le_succ _)
   . have m:=(hx.fl.2 q mq).1;refine U5 (nb q.1) ((hx.mem _).mpr ?_) _ yT rfl;generalize q.1=t at m;simp only[yY,zf,or_false]at m;rcases m with rfl|rfl|rfl|rfl<;>simp
   . obtain⟨W,cI⟩:=hW us tm;exact cI.shut O hc dj hl'
   . obtain⟨wk,d2⟩:=ho.told hx;obtain⟨ed,bR⟩:=r.tbl;have bF:ButT T0 H7 dl:=fun x o n e=>ho.bt x o n (bB x o n e);have aB:=gF bR ho.bt;have bY:rb≠T0:=fun z=>by rw[z,bR]at g;cases g
     refine J5 _ rfl _ rfl st rfl rb c3 rv' va bvs bs po (low most 20) (Y6 (!st) us G wk ⟨rfl,ho.bt _ _ bY g,ao.mono aB,bl.2,ai.mono aB,kp bF aT (by intro p z;cases z),d2,fun ea u=>?_⟩)
     refine Y3 _ rfl ?_;exact iteF ⟨fun x o n e=>u _ _ (bF x o n e),ho.lm.same u,Y4 _ _ rfl⟩
 . intro σ H8 z_;refine hZq fun q_ e_=>?_;obtain⟨b8,a0,v6,v7,rfl⟩:=z_;subst e_;exact k _
end K46
namespace K46
open PySem L2 Mth Wd
theorem ex0(us:List Value)(hl:us.length=n+1):∃a vs,us=a::vs/\vs.length=n:=by
 cases us with
 |nil=>cases hl
 |cons a vs=>exact⟨a,vs,rfl,Nat.succ.inj hl⟩
theorem ex1(us:List Value)(hl:us.length=1):∃a,us= [a]:=by
 obtain⟨a,vs,rfl,h⟩:=ex0 us hl;exact⟨a,by rw[List.eq_nil_of_length_eq_zero h]⟩
theorem ex2(us:List Value)(hl:us.length=2):∃a b,us= [a,b]:=by
 obtain⟨a,vs,rfl,h⟩:=ex0 us hl;obtain⟨b,rfl⟩:=ex1 vs h;exact⟨a,b,rfl⟩
theorem ex3(us:List Value)(hl:us.length=3):∃a b c,us= [a,b,c]:=by
 obtain⟨a,vs,rfl,h⟩:=ex0 us hl;obtain⟨b,c,rfl⟩:=ex2 vs h;exact⟨a,b,c,rfl⟩
theorem ex4(us:List Value)(hl:us.length=4):∃a b c d,us= [a,b,c,d]:=by
 obtain⟨a,vs,rfl,h⟩:=ex0 us hl;obtain⟨b,c,d,rfl⟩:=ex3 vs h;exact⟨a,b,c,d,rfl⟩
variable{l:PySem.W.OpenLaw}
theorem all_mk(X:K.In h)(G:h.Ns mainGlobals mg)(hfa:mg "law"=some (.ref fa)){fLB:Addr}{odLB anLB:Option Addr}{slLB:Array (Option Value)}{ocLB kVLB dcLB pmLB ctLB:Value}{fCD fFR fBR fST fTO fSE fTM fSH fSC fWH fCT fIS fSL fTU fTD fRE fHC fWB fLI fSP fTL fNU fPU fRA fRC fTI fTG fCP fHG fDR fLW fLP fLT fVA fLH fMX fBO fGO fLA:Addr}{dCD dFR dBR dST dTO dSE dTM dSH dSC dWH dCT dIS dSL dTU dTD dRE dHC dWB dLI dSP dTL dNU dPU dRA dRC dTI dTG dCP dHG dDR dLW dLP dLT dVA dLH dMX dBO dGO dLA:FuncData}{C:Addr}{odI anI:Option Addr}{slI:Array (Option Value)}{ocI kVI dcI pmI cdI ctI:Value}(hCD:FH K "common_divisor" sCd fCD dCD)(hFR:FH K "fraction" sFr fFR dFR)(hBR:FH K "bracketed" sBr fBR dBR)(hST:FH K "shown_term" sSt fST dST)(hTO:FH K "table_of" sTof fTO dTO)(hSE:FH K "settle" sSet fSE dSE)(hTM:FH K "terms_of" sTmo fTM dTM)(hSH:FH K "shares_in" sShi fSH dSH)(hSC:FH K "scale_of" sSco fSC dSC)(hWH:FH K "whole_of" sWho fWH dWH)(hCT:FH K "counts_of" sCto fCT dCT)(hIS:FH K "is_slack" sIsl fIS dIS)(hSL:FH K "slack_lines" sSll fSL dSL)(hTU:FH K "turn" sTur fTU dTU)(hTD:FH K "turned" sTud fTD dTD)(aLB:PySem.W.nsIn K mainGlobals "least_by"=some (some (.ref fLB)))(lLB:K.lookup fLB=some ⟨ocLB,odLB, .func (PySem.W.fnOf "least_by" "least_by" (bc sLby) (aP sLby) (af sLby) .none kVLB dcLB pmLB anLB (.ref c0) ctLB),slLB⟩)(cLB:PySem.W.codeIn K (.ref c0) "least_by"=true)(kLB:PySem.W.keepIn K (.ref fLB)=true)(hRE:FH K "refuted" sRef fRE dRE)(hHC:FH K "head_counts" sHco fHC dHC)(hWB:FH K "weights_by" sWby fWB dWB)(hLI:FH K "line_of" sLio fLI dLI)(hSP:FH K "strict_point" sStr fSP dSP)(hTL:FH K "term_lines" sTli fTL dTL)(hNU:FH K "numbers_at" sNua fNU dNU)(hPU:FH K "put_sum" sPut fPU dPU)(hRA:FH K "raised" sRai fRA dRA)(hRC:FH K "rising_column" sRis fRC dRC)(hTI:FH K "tightest" sTig fTI dTI)(hTG:FH K "is_tighter" sTgr fTG dTG)(hCP:FH K "closed_point" sClo fCP dCP)(hHG:FH K "highest" sHig fHG dHG)(hDR:FH K "_law_draw" rp fDR dDR)(hLW:FH K "_law_least" lQ fLW dLW)(hLP:FH K "_law_plus" lR fLP dLP)(hLT:FH K "_law_times" ji fLT dLT)(hVA:FH K "_law_value" jh fVA dVA)(hLH:FH K "_law_whole" rh fLH dLH)(hMX:FH K "_law_mixed" rj fMX dMX)(hBO:FH K "_law_bounds" jj fBO dBO)(hGO:FH K "_law_good" rl fGO dGO)(hLA:FH K "law" sLaw fLA dLA)(aTB:PySem.W.nsIn K mainGlobals "Table"=some (some (.ref C)))(iI:PySem.W.findIn K (.ref C) "__init__"=some (some (.ref fI)))(fnI:PySem.W.isFn K (.ref fI)=true)(lI:K.lookup fI=some ⟨ocI,odI, .func (PySem.W.fnOf "__init__" "Table.__init__" (bc iJ) (aP iJ) (af iJ) .none kVI dcI pmI anI cdI ctI),slI⟩)(cI:PySem.W.codeIn K cdI "Table.__init__"=true)(kI:PySem.W.keepIn K (.ref fI)=true)(kC:PySem.W.keepIn K (.ref C)=true)(qM:PySem.W.makesIn K C=true)(qG:PySem.W.plainGet K C Str.empty=true)(qD:PySem.W.hasDictIn K C=true)(qO:PySem.W.plainOver K C=true)(qS:PySem.W.findIn K (.ref C) "__setattr__"=some (some (.builtin "object.__setattr__")))(q_terms:PySem.W.findIn K (.ref C) "terms"=some none)(q_scales:PySem.W.findIn K (.ref C) "scales"=some none)(q_lines:PySem.W.findIn K (.ref C) "lines"=some none)(q_bottom:PySem.W.findIn K (.ref C) "bottom"=some none)(q_sides:PySem.W.findIn K (.ref C) "sides"=some none)(q_heads:PySem.W.findIn K (.ref C) "heads"=some none)(z_abs:PySem.W.nsIn K mainGlobals "abs"=some none)(z_len:PySem.W.nsIn K mainGlobals "len"=some none)(z_range:PySem.W.nsIn K mainGlobals "range"=some none)(z_isinstance:PySem.W.nsIn K mainGlobals "isinstance"=some none)(z_tuple:PySem.W.nsIn K mainGlobals "tuple"=some none)(z_int:PySem.W.nsIn K mainGlobals "int"=some none)(z_bool:PySem.W.nsIn K mainGlobals "bool"=some none)(z_list:PySem.W.nsIn K mainGlobals "list"=some none)(z_str:PySem.W.nsIn K mainGlobals "str"=some none)(z_all:PySem.W.nsIn K mainGlobals "all"=some none)(z_any:PySem.W.nsIn K mainGlobals "any"=some none)(z_sum:PySem.W.nsIn K mainGlobals "sum"=some none)(z_zip:PySem.W.nsIn K mainGlobals "zip"=some none)(z_sorted:PySem.W.nsIn K mainGlobals "sorted"=some none)(z_ValueError:PySem.W.nsIn K mainGlobals "ValueError"=some none)(z_repr:PySem.W.nsIn K mainGlobals "repr"=some none)(z_enumerate:PySem.W.nsIn K mainGlobals "enumerate"=some none)(z_max:PySem.W.nsIn K mainGlobals "max"=some none)(z_min:PySem.W.nsIn K mainGlobals "min"=some none)(xT:PySem.W.codeHdIn K c0 T0=true)(xN:K.lookup T0=none):
 ∃c0:Addr,K.lookup T0=none/\PySem.W.codeHdIn K c0 T0=true/\∃fd:FuncData,(∀(s:Shared) (v:Value),BindsTo s fd ⟨[v],[]⟩ [("_law_script",v)])/\∀base:Heap,K.In base->base.Ns mainGlobals mg->base.BuiltinsAt mg T0->FnOk l.prog w K mg base CX0 45 fa fd ["_law_script"] (nj K T0):=by
 have e:=hfa.symm.trans (PySem.W.mg_of X G hLA.ns);cases e;refine hZq fun q_ e_=>?_;obtain⟨_,_,aB,aT,au,n,aC,aA,_,rfl,c2,c3⟩:=hLA.ex;subst e_;have B:Blt mg:=⟨PySem.W.mg_none_of X G z_abs,PySem.W.mg_none_of X G z_len,PySem.W.mg_none_of X G z_range,PySem.W.mg_none_of X G z_isinstance,PySem.W.mg_none_of X G z_tuple,PySem.W.mg_none_of X G z_int,PySem.W.mg_none_of X G z_bool,PySem.W.mg_none_of X G z_list,PySem.W.mg_none_of X G z_str,PySem.W.mg_none_of X G z_all,PySem.W.mg_none_of X G z_any,PySem.W.mg_none_of X G z_sum,PySem.W.mg_none_of X G z_zip,PySem.W.mg_none_of X G z_sorted,PySem.W.mg_none_of X G z_ValueError,PySem.W.mg_none_of X G z_repr,PySem.W.mg_none_of X G z_enumerate,PySem.W.mg_none_of X G z_max,PySem.W.mg_none_of X G z_min⟩;have FI:=xD (st:=iJ) lI cI kI;have bI:=FI.binds (ps:= ["self","terms","scales","lines"]) fun _ _ _ _ _ _ us hl=>by obtain⟨_,_,_,_,rfl⟩:=ex4 us hl;rfl
 have bg:=PySem.W.mg_of X G aTB;have hC:Tk K C:=⟨⟨qG,qD,qO,qS⟩,q_terms,q_scales,q_lines,q_bottom,q_sides,q_heads⟩;have hM:Mk K C fI:=⟨qM,iI,fnI,kC⟩;have bY:FunC K "least_by" "least_by" sLby fLB _ c0:=⟨⟨_,Y6 _ _ _ _ (J2 _ _ _ rfl lLB cLB)⟩⟩;have p:Binds K _ ["one","other"] []:=hCD.b2;have i:=PySem.W.mg_of X G hCD.ns;have cd:Binds K _ ["words"] []:=hBR.b1;have bv:=PySem.W.mg_of X G hBR.ns;have a6:Binds K _ ["term"] []:=hST.b1;have b7:=PySem.W.mg_of X G hST.ns;have q:FH K _ sLby _ _:= .mk' aLB lLB cLB kLB;refine O5 c0 xN xT (PySem.W.fnOf "law" "law" (bc sLaw) (aP sLaw) (af sLaw) .none aB aT au n aC aA) (fun s v=> .of_eq rfl) (fun base _ _ hB=>?_);have f:Cl l.prog w K mg base 2 _ _ kg:=hFR.c X G hFR.b2 (wY hFR.fn hCD.fn p i B);have z:Cl l.prog w K mg base 41 _ _ (spSt 40):=hST.c X G hST.b1 (yx hST.fn a6 b7 hBR.fn cd bv 40);have m:Cl l.prog w K mg base 1 _ _ mW:=hSH.c X G hSH.b1 (wH hSH.fn);have u:Cl l.prog w K mg base 2 _ _ mX:=hSC.c X G hSC.b1 (wJ hSC.fn hCD.fn p i B);have ai:Cl l.prog w K mg base 1 _ _ mU:=hWH.c X G hWH.b2 (wu hWH.fn);have bb:Cl l.prog w K mg base 42 _ _ qN:=hTM.c X G hTM.b1 (wB hTM.fn B z);have r:Cl l.prog w K mg base 42 _ _ nA:=hCT.c X G hCT.b3 (wZ hCT.fn z ai);have k:Cl l.prog w K mg base 1 _ _ (ny (K:=K)):=hIS.c X G hIS.b2 (wV hIS.fn B);have a:Cl l.prog w K mg base 2 _ _ (iH (K:=K)):=hSL.c X G hSL.b1 (wG hSL.fn B k);have b6:Cl l.prog w K mg base 1 _ _ (qK (K:=K)):=hTD.c X G hTD.b5 (wz hTD.fn B);have b:Cl l.prog w K mg base 2 _ _ (k9 (K:=K)):=hTU.c X G hTU.b3 (wy hTU.fn B b6);have a0:Cl l.prog w K mg base 2 _ _ (n9 (K:=K) T0):=q.c X G q.b2 (wS bY B xT hB);have gI:FnOk l.prog w K mg base CX0 1 fI _ ["self","terms","scales","lines"] (lN (K:=K) C):=uB FI B;have bB:Cl l.prog w K mg base 3 _ _ (qT (K:=K)):=hSE.c X G hSE.b1 (wI hSE.fn B a b);have bi:Cl l.prog w K mg base 1 _ _ (r4 (K:=K)):=hHC.c X G hHC.b2 (wX hHC.fn B);have bw:Cl l.prog w K mg base 3 _ _ (qI (K:=K)):=hWB.c X G hWB.b3 (ww hWB.fn B f);have a3:Cl l.prog w K mg base 3 _ _ (qV (K:=K) T0):=hRE.c X G hRE.b1 (wL hRE.fn B a a0 b);have t:Cl l.prog w K mg base 1 _ _ (mZ (K:=K)):=hLI.c X G hLI.b2 (wR hLI.fn B);have ao:Cl l.prog w K mg base 2 _ _ (mV (K:=K)):=hTL.c X G hTL.b1 (wC hTL.fn B t);have cr:Cl l.prog w K mg base 3 _ _ (qR (K:=K)):=hSP.c X G hSP.b1 (wF hSP.fn B a ao);have bR:Cl l.prog w K mg base 3 _ _ (qY (P:=l.prog) (w:=w) (K:=K)):=hNU.c X G hNU.b2 (wO hNU.fn B f);have bP:Cl l.prog w K mg base 43 _ _ (qL C):=hTO.c X G hTO.b2 (wA hTO.fn B hC bb u m r ai hM gI bI bg bB);have bF:Cl l.prog w K mg base 1 _ _ (qQ (K:=K)):=hTG.c X G hTG.b4 (wE hTG.fn B);have a1:Cl l.prog w K mg base 3 _ _ (qP (K:=K)):=hTI.c X G hTI.b2 (wD hTI.fn B a bF);have cm:Cl l.prog w K mg base 3 _ _ (qU (K:=K) T0):=hRC.c X G hRC.b1 (wK hRC.fn B k a0);have b8:Cl l.prog w K mg base 4 _ _ (qW (K:=K) T0):=hRA.c X G hRA.b2 (wM hRA.fn B cm a1 b);have a4:Cl l.prog w K mg base 43 _ _ (qX (K:=K)):=hPU.c X G hPU.b2 (wN hPU.fn B u m r t);have a5:Cl l.prog w K mg base 3 _ _ (r6 (K:=K)):=hCP.c X G hCP.b1 (x3 hCP.fn B ao);have bC:Cl l.prog w K mg base 44 _ _ (qZ l.prog w K T0):=hHG.c X G hHG.b2 (wW hHG.fn hC bP a3 a4 b8 bw bi f bR cr a5)
 have d:Cl l.prog w K mg base 1 _ _ (gQ K):=hDR.c X G hDR.b3 (uE hDR.fn B);have g:Cl l.prog w K mg base 1 _ _ ka:=hLW.c X G hLW.b2 (wQ hLW.fn B);have j:Cl l.prog w K mg base 2 _ _ gg:=hLP.c X G hLP.b2 (se hLP.fn g);have x:Cl l.prog w K mg base 2 _ _ eV:=hLT.c X G hLT.b2 (oU hLT.fn g);have a2:Cl l.prog w K mg base 3 _ _ (qJ l.prog w K):=hVA.c X G hVA.b2 (wx hVA.fn x j);have y:Cl l.prog w K mg base 1 _ _ ke:=hLH.c X G hLH.b2 (uC hLH.fn B);have o:Cl l.prog w K mg base 2 _ _ (mY K):=hMX.c X G hMX.b3 (wP hMX.fn B d);have cn:Cl l.prog w K mg base 3 _ _ (gR K):=hBO.c X G hBO.b4 (oV hBO.fn B d y o);have bj:Cl l.prog w K mg base 4 _ _ (lO l.prog w K):=hGO.c X G hGO.b5 (uD hGO.fn B a2 x j);exact wU hLA.fn B d g y o cn bj bC
theorem walk{q:Program}{loose:List Str}{d:DefRec}{K:Params->PySem.W.Frag}(hn:l.most=some 63)(hdf:d.params.defaults= [])(hY:∀(w:World) (h:Heap),YP w h->(K w.params).In h)(hYT:∀(w:World) (h:Heap),YP w h->h.get? T0=some (PySem.W.tabObj #[]))(F:∀(w:World) (mg:Str->Option Value) (fa:Addr) (h:Heap),(K w.params).In h->h.Ns mainGlobals mg->mg d.name=some (.ref fa)->
  ∃c0:Addr,(K w.params).lookup T0=none/\PySem.W.codeHdIn (K w.params) c0 T0=true/\∃fd:FuncData,(∀(s:Shared) (u:Value),BindsTo s fd ⟨[u],[]⟩ [("_law_script",u)])/\∀base:Heap,(K w.params).In base->base.Ns mainGlobals mg->base.BuiltinsAt mg T0->FnOk l.prog w (K w.params) mg base CX0 45 fa fd ["_law_script"] (nj (K w.params) T0)):
 PySem.W.WalkO q loose XP YP l.row.toRowW d [] (fun f vs=>PySem.call f vs):=
 L2.walk_ofT (n:=63) (k:=45) (x:="_law_script") (CX:=fun _=>CX0) (sp:=fun w T0=>nj (K w.params) T0) hn (by decide) hdf ⟨rfl,by decide,by decide,rfl⟩ hY hYT F (fun _ _ a ns hl c b=>⟨a,ns,rfl,b,hl, .inl c,fun _=>rfl⟩) fun _ _ _ _ _ z=>z
end K46
namespace PySem.W.Fast
def tw7966052673244265516:True:=⟨⟩
def tw5127932206294996737:True:=⟨⟩
def tw1618384430744628348:True:=⟨⟩
def tw11043914875442057160:True:=⟨⟩
def tw1485095594473440366:True:=⟨⟩
def tw7229963133145824376:True:=⟨⟩
def tw560815863630417061:True:=⟨⟩
def tw10617061057607141859:True:=⟨⟩
def tw17193195649885083541:True:=⟨⟩
def tw16809233111260324845:True:=⟨⟩
def tw9270517030999979566:True:=⟨⟩
def tw10480902062636400060:True:=⟨⟩
def tw11261005559178245750:True:=⟨⟩
def tw5393582534677046565:True:=⟨⟩
def tw10061532151997317701:True:=⟨⟩
def tw6036832744505441732:True:=⟨⟩
def tw14094762588787847551:True:=⟨⟩
def tw16761639871081304099:True:=⟨⟩
def tw14065088830218054698:True:=⟨⟩
def tw17758116486191685132:True:=⟨⟩
def tw17162951096975723799:True:=⟨⟩
def tw7151155269366543152:True:=⟨⟩
def tw2918322548847008518:True:=⟨⟩
def tw2239834061722168183:True:=⟨⟩
def tw4841277528518418720:True:=⟨⟩
def tw13888086250188812153:True:=⟨⟩
def tw16637321746075849098:True:=⟨⟩
def tw12427351266358086807:True:=⟨⟩
def tw7617612331326655329:True:=⟨⟩
def tw9147525194130587745:True:=⟨⟩
def tw14189090877964510941:True:=⟨⟩
def tw12645999949271396345:True:=⟨⟩
def tw10759913528773061659:True:=⟨⟩
def tw5645238127208811401:True:=⟨⟩
def tw14594274643005608831:True:=⟨⟩
end PySem.W.Fast
end
open PySem PySem.W PyProof.Rows
set_option maxRecDepth 100000 in
set_option maxHeartbeats 0 in
theorem PySem.Challenge.cw_smallword_k46_turns_that_go_round_holds : PySem.Challenge.rw_smallword_k46_turns_that_go_round.Holds := by
  w_on; o_law; k_head; (case hw => w_witness2)
  k_fill
  refine K46.walk (l := PySem.Challenge.rw_smallword_k46_turns_that_go_round) (T0 := _) rfl rfl (fun w h Y => PySem.W.km_in_of Y) (fun w h Y => PySem.W.km_tabs_of Y _ (by first | exact List.mem_cons_self | decide)) ?F
  case F =>
    intro w mg c h b G a;refine' K46.all_mk b G a (.mk' ?_ ?_ ?_ ?_) (.mk' ?_ ?_ ?_ ?_) (.mk' ?_ ?_ ?_ ?_) (.mk' ?_ ?_ ?_ ?_) (.mk' ?_ ?_ ?_ ?_) (.mk' ?_ ?_ ?_ ?_) (.mk' ?_ ?_ ?_ ?_) (.mk' ?_ ?_ ?_ ?_) (.mk' ?_ ?_ ?_ ?_) (.mk' ?_ ?_ ?_ ?_) (.mk' ?_ ?_ ?_ ?_) (.mk' ?_ ?_ ?_ ?_) (.mk' ?_ ?_ ?_ ?_) (.mk' ?_ ?_ ?_ ?_) (.mk' ?_ ?_ ?_ ?_) ?_ ?_ ?_ ?_ (.mk' ?_ ?_ ?_ ?_) (.mk' ?_ ?_ ?_ ?_) (.mk' ?_ ?_ ?_ ?_) (.mk' ?_ ?_ ?_ ?_) (.mk' ?_ ?_ ?_ ?_) (.mk' ?_ ?_ ?_ ?_) (.mk' ?_ ?_ ?_ ?_) (.mk' ?_ ?_ ?_ ?_) (.mk' ?_ ?_ ?_ ?_) (.mk' ?_ ?_ ?_ ?_) (.mk' ?_ ?_ ?_ ?_) (.mk' ?_ ?_ ?_ ?_) (.mk' ?_ ?_ ?_ ?_) (.mk' ?_ ?_ ?_ ?_) (.mk' ?_ ?_ ?_ ?_) (.mk' ?_ ?_ ?_ ?_) (.mk' ?_ ?_ ?_ ?_) (.mk' ?_ ?_ ?_ ?_) (.mk' ?_ ?_ ?_ ?_) (.mk' ?_ ?_ ?_ ?_) (.mk' ?_ ?_ ?_ ?_) (.mk' ?_ ?_ ?_ ?_) (.mk' ?_ ?_ ?_ ?_) (.mk' ?_ ?_ ?_ ?_) ?_ ?_ ?_ ?_ ?_ ?_ ?_ ?_ ?_ ?_ ?_ ?_ ?_ ?_ ?_ ?_ ?_ ?_ ?_ ?_ ?_ ?_ ?_ ?_ ?_ ?_ ?_ ?_ ?_ ?_ ?_ ?_ ?_ ?_ ?_ ?_ ?_ ?xT ?xN
    any_goals k_is
    any_goals kernel_rfl
