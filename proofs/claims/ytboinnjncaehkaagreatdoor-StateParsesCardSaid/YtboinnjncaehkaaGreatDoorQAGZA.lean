/- What the laws rest on: StzP, DepP, S5c, E6k, P6j. -/
import Derived.Test.YtboinnjncaehkaaGreatDoorQBOZA
set_option maxRecDepth 100000
set_option linter.unusedVariables false
set_option linter.unusedSimpArgs false
namespace Go.Proofs.YtboinnjncaehkaaGreatDoor
open Go.RowKit
theorem fin_fin (s:PS):s.fin.fin=s.fin:=fin_of (fin_closed s)
theorem any_cl (op:List Opn) (n:ByteArray):getV (op.map clF) n=op.any fun f=>decide (f.1=n):=by
 unfold getV
 rw [List.any_map];rfl
theorem trm_full {m:List Nat} (h0:∀x r,m=x::r→x≠32) (h1:∀x r,m=r++[x]→x≠32):trm m=m:=by
 rcases List.eq_nil_or_concat m with rfl|⟨r,x,rfl⟩
 ·rfl
 ·rw [List.concat_eq_append] at *
  unfold trm
  rw [trmR_last _ (h1 x r rfl)]
  cases hr:r++[x] with
  | nil=>rfl
  | cons y t=>rw [List.dropWhile_cons,if_neg (by simpa using h0 y t hr)]
theorem fstV_cons (f:Fd) (r:List Fd) (n:ByteArray):fstV (f::r) n=if f.n=n then f.v else fstV r n:=rfl
def rdE (AE:List Nat→Int) (AL:List Nat→List Atm) (st:List Fd):Int × Ent:=
 if getV st nPk=false∨getV st nVe=false then (6,emp)
 else if nameB (B (fstV st nPk))=false then (3,emp)
 else if prB (B (fstV st nVe))=false then (4,emp)
 else if depE (B (fstV st nDe))≠0 then (depE (B (fstV st nDe)),emp)
 else if depE (B (fstV st nRe))≠0 then (depE (B (fstV st nRe)),emp)
 else if AE (B (fstV st nCo))≠0 then (AE (B (fstV st nCo)),emp)
 else if AE (B (fstV st nPr))≠0 then (AE (B (fstV st nPr)),emp)
 else if 8 < (AL (B (fstV st nPr))).length then (8,emp)
 else if givs6 (AL (B (fstV st nPr)))=false then (5,emp)
 else (0,⟨fstV st nPk,fstV st nVe,depL (B (fstV st nDe)),depL (B (fstV st nRe)),AL (B (fstV st nCo)),AL (B (fstV st nPr))⟩)
theorem fV_no {st:List Fd} {s:Int × Ent} (h:s.1≠0):fV st s=s:=if_neg h
theorem fD_no {st:List Fd} {s:Int × Ent} (h:s.1≠0):fD st s=s:=if_neg h
theorem fR_no {st:List Fd} {s:Int × Ent} (h:s.1≠0):fR st s=s:=if_neg h
theorem fC_no {st:List Fd} {s:Int × Ent} (h:s.1≠0):fC st s=s:=if_neg h
theorem fP_no {st:List Fd} {s:Int × Ent} (h:s.1≠0):fP st s=s:=if_neg h
def ends (s:Int × Ent):Int × Ent:=if s.1=0 then s else (s.1,emp)
theorem ends_no {s:Int × Ent} (h:s.1≠0):ends s=(s.1,emp):=if_neg h
theorem rdP_is (st:List Fd):rdP st=rdE atE atL st:=by
 have h0:rdP st=if getV st nPk=false∨getV st nVe=false then (6,emp) else ends (rdS st):=rfl
 rw [h0]
 unfold rdE
 by_cases h:getV st nPk=false∨getV st nVe=false
 ·rw [if_pos h,if_pos h]
 rw [if_neg h,if_neg h]
 unfold rdS
 cases hn:nameB (B (fstV st nPk))
 ·have e1:fN st (0,emp)=(3,⟨{ data:=#[] },{ data:=#[] },[],[],[],[]⟩):=by
   show stp _ _ _=_
   unfold stp;rw [if_pos rfl,hn];rfl
  rw [e1,fV_no (by decide),fD_no (by decide),fR_no (by decide),fC_no (by decide),fP_no (by decide),ends_no (by decide),if_pos rfl]
 have e1:fN st (0,emp)=(0,⟨fstV st nPk,{ data:=#[] },[],[],[],[]⟩):=by
  show stp _ _ _=_
  unfold stp;rw [if_pos rfl,hn];rfl
 rw [e1,if_neg (by decide)]
 generalize fstV st nPk=xn
 cases hv:prB (B (fstV st nVe))
 ·have e2:fV st (0,⟨xn,{ data:=#[] },[],[],[],[]⟩)=(4,⟨xn,{ data:=#[] },[],[],[],[]⟩):=by
   show stp _ _ _=_
   unfold stp;rw [if_pos rfl,hv];rfl
  rw [e2,fD_no (by simp),fR_no (by simp),fC_no (by simp),fP_no (by simp),ends_no (by simp),if_pos rfl]
 have e2:fV st (0,⟨xn,{ data:=#[] },[],[],[],[]⟩)=(0,⟨xn,fstV st nVe,[],[],[],[]⟩):=by
  show stp _ _ _=_
  unfold stp;rw [if_pos rfl,hv];rfl
 rw [e2,if_neg (by decide)]
 generalize fstV st nVe=xv
 have e3:fD st (0,⟨xn,xv,[],[],[],[]⟩)=(depE (B (fstV st nDe)),⟨xn,xv,depL (B (fstV st nDe)),[],[],[]⟩):=by
  show stp _ _ _=_
  unfold stp;rw [if_pos rfl]
 rw [e3]
 generalize depE (B (fstV st nDe))=ed
 generalize depL (B (fstV st nDe))=xd
 by_cases hd:ed≠0
 ·rw [if_pos hd,fR_no hd,fC_no hd,fP_no hd,ends_no hd]
 rw [if_neg hd]
 obtain rfl:ed=0:=Decidable.not_not.1 hd
 have e4:fR st (0,⟨xn,xv,xd,[],[],[]⟩)=(depE (B (fstV st nRe)),⟨xn,xv,xd,depL (B (fstV st nRe)),[],[]⟩):=by
  show stp _ _ _=_
  unfold stp;rw [if_pos rfl]
 rw [e4]
 generalize depE (B (fstV st nRe))=ed
 generalize depL (B (fstV st nRe))=xr
 by_cases hd:ed≠0
 ·rw [if_pos hd,fC_no hd,fP_no hd,ends_no hd]
 rw [if_neg hd]
 obtain rfl:ed=0:=Decidable.not_not.1 hd
 have e5:fC st (0,⟨xn,xv,xd,xr,[],[]⟩)=(atE (B (fstV st nCo)),⟨xn,xv,xd,xr,atL (B (fstV st nCo)),[]⟩):=by
  show stp _ _ _=_
  unfold stp;rw [if_pos rfl]
 rw [e5]
 generalize atE (B (fstV st nCo))=ed
 generalize atL (B (fstV st nCo))=xc
 by_cases hd:ed≠0
 ·rw [if_pos hd,fP_no hd,ends_no hd]
 rw [if_neg hd]
 obtain rfl:ed=0:=Decidable.not_not.1 hd
 have e6:fP st (0,⟨xn,xv,xd,xr,xc,[]⟩)=(pvE (B (fstV st nPr)),⟨xn,xv,xd,xr,xc,pvL (B (fstV st nPr))⟩):=by
  show stp _ _ _=_
  unfold stp;rw [if_pos rfl]
 rw [e6]
 have hE:pvE (B (fstV st nPr))=if atE (B (fstV st nPr))≠0 then atE (B (fstV st nPr)) else if 8 < (atL (B (fstV st nPr))).length then 8 else if givs6 (atL (B (fstV st nPr)))=false then 5 else 0:=rfl
 have hL:pvL (B (fstV st nPr))=if pvE (B (fstV st nPr))=0 then atL (B (fstV st nPr)) else []:=rfl
 generalize pvE (B (fstV st nPr))=pe at *
 generalize pvL (B (fstV st nPr))=pl at *
 generalize atE (B (fstV st nPr))=ae at *
 generalize atL (B (fstV st nPr))=al at *
 by_cases h1:ae≠0
 ·rw [if_pos h1] at hE
  rw [if_pos h1,hE,ends_no h1]
 rw [if_neg h1] at hE
 rw [if_neg h1]
 by_cases h2:8 < al.length
 ·rw [if_pos h2] at hE
  rw [if_pos h2,hE,ends_no (by simp)]
 rw [if_neg h2] at hE
 rw [if_neg h2]
 by_cases h3:givs6 al=false
 ·rw [if_pos h3] at hE
  rw [if_pos h3,hE,ends_no (by simp)]
 rw [if_neg h3] at hE
 rw [if_neg h3,hL,hE,if_pos rfl]
 exact if_pos rfl
section
variable {w0 W:World} {sb rb eb fb:Nat} {s:Int × Ent} {cv:Nat→Value} {A:Option Addr} {n c:Nat} {st:List Fd}
end
end Go.Proofs.YtboinnjncaehkaaGreatDoor
