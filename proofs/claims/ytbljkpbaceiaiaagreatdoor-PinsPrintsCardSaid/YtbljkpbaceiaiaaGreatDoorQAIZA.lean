/- What the laws rest on: RelP, Shelf, Ver5, StzT, S5c, S5y, Bld, S5k2, S5k3. -/
import Derived.Test.YtbljkpbaceiaiaaGreatDoorQAPZA
set_option maxRecDepth 100000
set_option linter.unusedVariables false
set_option linter.unusedSimpArgs false
namespace Go.Proofs.YtbljkpbaceiaiaaGreatDoor
open Go.RowKit
theorem name_len {n:List Nat} (h:nameB n=true):2≤n.length∧n.length≤40:=by
 unfold nameB at h
 simp only [Bool.and_eq_true,decide_eq_true_eq] at h
 exact h.1.1
end Go.Proofs.YtbljkpbaceiaiaaGreatDoor
namespace Go.Proofs
open Go.Shelf
def Tryz.lays170_ren:Go.Shelf.Ren:=⟨fun|170=>77|n=>n,fun|70=>94|3=>3|0=>0|72=>96|37=>85|5=>5|n=>n,fun|n=>n⟩
theorem Tryz.lays170:Go.Proofs.Lays.n170 Tryz.prog Tryz.lays170_ren:={
 mixed:=by kernel_rfl
 f170:=Tryz.func77.trans (congrArg some (by kernel_rfl))
 t0:=Tryz.underlying0
 a0:=Tryz.isAgg0
 z0:=Tryz.sizeOf0
 v0:=Tryz.zeroValue0
 t3:=Tryz.underlying3
 a3:=Tryz.isAgg3
 z3:=Tryz.sizeOf3
 v3:=Tryz.zeroValue3
 t37:=Tryz.underlying85
 a37:=Tryz.isAgg85
 z37:=Tryz.sizeOf85
 v37:=Tryz.zeroValue85
 t70:=Tryz.underlying94
 a70:=Tryz.isAgg94
 z70:=Tryz.sizeOf94
 v70:=Tryz.zeroValue94
 t72:=Tryz.underlying96
 a72:=Tryz.isAgg96
 z72:=Tryz.sizeOf96
 v72:=Tryz.zeroValue96 }
open Go.RowKit in
theorem Tryz.Builder_Len (B b:Nat) (bs:List Value) (w:World) (h:Lib.IsBuilder 96 5 B b bs w) :
  Calls Tryz.prog 77 #[.pointer (some ⟨b,0,none⟩)] w fun e w'=>e=.returned (.int .i64 bs.length)∧w'=w:=Any.Builder_Len Tryz.lays170 B b bs w h
def Tryz.lays169_ren:Go.Shelf.Ren:=⟨fun|169=>78|n=>n,fun|70=>94|9=>9|0=>0|72=>96|37=>85|127=>118|3=>3|5=>5|n=>n,fun|n=>n⟩
theorem Tryz.lays169:Go.Proofs.Lays.n169 Tryz.prog Tryz.lays169_ren:={
 mixed:=by kernel_rfl
 f169:=Tryz.func78.trans (congrArg some (by kernel_rfl))
 t0:=Tryz.underlying0
 a0:=Tryz.isAgg0
 z0:=Tryz.sizeOf0
 v0:=Tryz.zeroValue0
 t3:=Tryz.underlying3
 a3:=Tryz.isAgg3
 z3:=Tryz.sizeOf3
 v3:=Tryz.zeroValue3
 t9:=Tryz.underlying9
 a9:=Tryz.isAgg9
 z9:=Tryz.sizeOf9
 v9:=Tryz.zeroValue9
 t37:=Tryz.underlying85
 a37:=Tryz.isAgg85
 z37:=Tryz.sizeOf85
 v37:=Tryz.zeroValue85
 t70:=Tryz.underlying94
 a70:=Tryz.isAgg94
 z70:=Tryz.sizeOf94
 v70:=Tryz.zeroValue94
 t72:=Tryz.underlying96
 a72:=Tryz.isAgg96
 z72:=Tryz.sizeOf96
 v72:=Tryz.zeroValue96
 t127:=Tryz.underlying118
 a127:=Tryz.isAgg118
 z127:=Tryz.sizeOf118
 v127:=Tryz.zeroValue118 }
theorem Tryz.Builder_Extra_169:Builder.Extra Tryz.prog Tryz.lays169_ren:={
 sizeBuilder:=by kernel_rfl
 liesBuilder:=by kernel_rfl
 t5:=Tryz.underlying5
 a5:=Tryz.isAgg5
 z5:=Tryz.sizeOf5
 v5:=Tryz.zeroValue5
 infoByte:=by kernel_rfl
 cellsByte:=by kernel_rfl
 sizeByte:=by kernel_rfl
 neB5:=by decide }
open Go.RowKit in
theorem Tryz.Builder_String_any (B b:Nat) (l:List UInt8) (w:World) (h:Lib.IsBuilder 96 5 B b (Lib.byteCells l) w) (hBw:B≤w.heap.size) :
  Calls Tryz.prog 78 #[.pointer (some ⟨b,0,none⟩)] w fun e w'=>e=.returned (.string ⟨l.toArray⟩)∧Below B w w':=Any.Builder_String_any Tryz.lays169 Tryz.Builder_Extra_169 B b l w h hBw
def Tryz.lays154_ren:Go.Shelf.Ren:=⟨fun|154=>118|138=>103|165=>108|143=>104|166=>75|197=>120|169=>78|195=>119|218=>121|240=>98|241=>128|219=>122|260=>135|276=>116|277=>142|217=>136|225=>137|224=>138|267=>139|266=>148|314=>149|n=>n,fun|9=>9|3=>3|4=>4|72=>96|0=>0|76=>74|105=>138|21=>21|5=>5|70=>94|20=>20|37=>85|75=>73|127=>118|164=>134|46=>128|119=>167|139=>170|138=>169|146=>171|51=>163|80=>101|n=>n,fun|1=>2|3=>4|4=>5|n=>n⟩
def Tryz.lays155_ren:Go.Shelf.Ren:=⟨fun|155=>100|154=>118|138=>103|165=>108|143=>104|166=>75|197=>120|169=>78|195=>119|218=>121|240=>98|241=>128|219=>122|260=>135|276=>116|277=>142|217=>136|225=>137|224=>138|267=>139|266=>148|314=>149|n=>n,fun|9=>9|3=>3|4=>4|72=>96|0=>0|76=>74|105=>138|21=>21|5=>5|70=>94|20=>20|37=>85|75=>73|127=>118|164=>134|46=>128|119=>167|139=>170|138=>169|146=>171|51=>163|80=>101|n=>n,fun|1=>2|3=>4|4=>5|n=>n⟩
theorem Tryz.lays155:Go.Proofs.Lays.n155 Tryz.prog Tryz.lays155_ren:={
 mixed:=by kernel_rfl
 f138:=Tryz.func103.trans (congrArg some (by kernel_rfl))
 f143:=Tryz.func104.trans (congrArg some (by kernel_rfl))
 f154:=Tryz.func118.trans (congrArg some (by kernel_rfl))
 f155:=Tryz.func100.trans (congrArg some (by kernel_rfl))
 f165:=Tryz.func108.trans (congrArg some (by kernel_rfl))
 f166:=Tryz.func75.trans (congrArg some (by kernel_rfl))
 f169:=Tryz.func78.trans (congrArg some (by kernel_rfl))
 f195:=Tryz.func119.trans (congrArg some (by kernel_rfl))
 f197:=Tryz.func120.trans (congrArg some (by kernel_rfl))
 f217:=Tryz.func136.trans (congrArg some (by kernel_rfl))
 f218:=Tryz.func121.trans (congrArg some (by kernel_rfl))
 f219:=Tryz.func122.trans (congrArg some (by kernel_rfl))
 f224:=Tryz.func138.trans (congrArg some (by kernel_rfl))
 f225:=Tryz.func137.trans (congrArg some (by kernel_rfl))
 f240:=Tryz.func98.trans (congrArg some (by kernel_rfl))
 f241:=Tryz.func128.trans (congrArg some (by kernel_rfl))
 f260:=Tryz.func135.trans (congrArg some (by kernel_rfl))
 f266:=Tryz.func148.trans (congrArg some (by kernel_rfl))
 f267:=Tryz.func139.trans (congrArg some (by kernel_rfl))
 f276:=Tryz.func116.trans (congrArg some (by kernel_rfl))
 f277:=Tryz.func142.trans (congrArg some (by kernel_rfl))
 f314:=Tryz.func149.trans (congrArg some (by kernel_rfl))
 t0:=Tryz.underlying0
 a0:=Tryz.isAgg0
 z0:=Tryz.sizeOf0
 v0:=Tryz.zeroValue0
 t3:=Tryz.underlying3
 a3:=Tryz.isAgg3
 z3:=Tryz.sizeOf3
 v3:=Tryz.zeroValue3
 t4:=Tryz.underlying4
 a4:=Tryz.isAgg4
 z4:=Tryz.sizeOf4
 v4:=Tryz.zeroValue4
 t5:=Tryz.underlying5
 a5:=Tryz.isAgg5
 z5:=Tryz.sizeOf5
 v5:=Tryz.zeroValue5
 t9:=Tryz.underlying9
 a9:=Tryz.isAgg9
 z9:=Tryz.sizeOf9
 v9:=Tryz.zeroValue9
 t20:=Tryz.underlying20
 a20:=Tryz.isAgg20
 z20:=Tryz.sizeOf20
 v20:=Tryz.zeroValue20
 t21:=Tryz.underlying21
 a21:=Tryz.isAgg21
 z21:=Tryz.sizeOf21
 v21:=Tryz.zeroValue21
 t37:=Tryz.underlying85
 a37:=Tryz.isAgg85
 z37:=Tryz.sizeOf85
 v37:=Tryz.zeroValue85
 t46:=Tryz.underlying128
 a46:=Tryz.isAgg128
 z46:=Tryz.sizeOf128
 v46:=Tryz.zeroValue128
 t51:=Tryz.underlying163
 a51:=Tryz.isAgg163
 z51:=Tryz.sizeOf163
 v51:=Tryz.zeroValue163
 t70:=Tryz.underlying94
 a70:=Tryz.isAgg94
 z70:=Tryz.sizeOf94
 v70:=Tryz.zeroValue94
 t72:=Tryz.underlying96
 a72:=Tryz.isAgg96
 z72:=Tryz.sizeOf96
 v72:=Tryz.zeroValue96
 t75:=Tryz.underlying73
 a75:=Tryz.isAgg73
 z75:=Tryz.sizeOf73
 v75:=Tryz.zeroValue73
 t76:=Tryz.underlying74
 a76:=Tryz.isAgg74
 z76:=Tryz.sizeOf74
 v76:=Tryz.zeroValue74
 t105:=Tryz.underlying138
 a105:=Tryz.isAgg138
 z105:=Tryz.sizeOf138
 v105:=Tryz.zeroValue138
 t119:=Tryz.underlying167
 a119:=Tryz.isAgg167
 z119:=Tryz.sizeOf167
 t127:=Tryz.underlying118
 a127:=Tryz.isAgg118
 z127:=Tryz.sizeOf118
 v127:=Tryz.zeroValue118
 t138:=Tryz.underlying169
 a138:=Tryz.isAgg169
 z138:=Tryz.sizeOf169
 v138:=Tryz.zeroValue169
 t139:=Tryz.underlying170
 a139:=Tryz.isAgg170
 z139:=Tryz.sizeOf170
 v139:=Tryz.zeroValue170
 t146:=Tryz.underlying171
 a146:=Tryz.isAgg171
 z146:=Tryz.sizeOf171
 v146:=Tryz.zeroValue171
 t164:=Tryz.underlying134
 a164:=Tryz.isAgg134
 z164:=Tryz.sizeOf134
 v164:=Tryz.zeroValue134
 g1:=by kernel_rfl
 g3:=by kernel_rfl
 g4:=by kernel_rfl }
theorem Tryz.Builder_Extra_155:Builder.Extra Tryz.prog Tryz.lays155_ren:={
 sizeBuilder:=by kernel_rfl
 liesBuilder:=by kernel_rfl
 t5:=Tryz.underlying5
 a5:=Tryz.isAgg5
 z5:=Tryz.sizeOf5
 v5:=Tryz.zeroValue5
 infoByte:=by kernel_rfl
 cellsByte:=by kernel_rfl
 sizeByte:=by kernel_rfl
 neB5:=by decide }
open Go.RowKit Go.Lib in
theorem Tryz.strings_ReplaceAll (s old new:ByteArray) (m:Int) (w:World) (hs:s.size < 4294967281) (hm:w.cell? ⟨2,0,none⟩=some (.int .i64 m)) (h1:1≤old.size) (hlen:s.size+Lib.countB s old*new.size≤140737488355328) :
  Calls Tryz.prog 100 #[.string s,.string old,.string new] w fun e w'=>
   e=.returned (.string ⟨(Lib.replaceAll s.data.toList old.data.toList new.data.toList).toArray⟩)∧Below w.heap.size w w':=Any.strings_ReplaceAll Tryz.lays155 Tryz.Builder_Extra_155 s old new m w hs hm h1 hlen
end Go.Proofs
namespace Go.Proofs.YtbljkpbaceiaiaaGreatDoor
open Go.RowKit
theorem bel_al {V W:World} {o:Obj} (h:Below V.heap.size V W):Below V.heap.size V (W.alloc o):=h.alloc h.size o
def hd32:List Nat→Bool
 | []=>false
 | c::_=>decide (c=32)
def lnOk (l:List Nat):Bool:=!lowB l&&!decide (l=[])
def valL:List (List Nat)→Bool
 | []=>false
 | f::r=>!lowB f&&!hd32 f&&r.all lnOk
theorem valL_cons (f:List Nat) (r:List (List Nat)):valL (f::r)=(!lowB f&&!hd32 f&&r.all lnOk):=rfl
def valB (v:List Nat):Bool:=valL (cutBy 10 v)
theorem valL_no {L:List (List Nat)} {k:Nat} (hk:k < L.length) (h:lowB L[k]=true∨(0 < k∧L[k]=[])):valL L=false:=by
 cases L with
 | nil=>rfl
 | cons f r=>
  cases k with
  | zero=>
   rcases h with h|h
   ·rw [valL_cons]
    rw [show lowB f=true from h];rfl
   ·exact absurd h.1 (Nat.lt_irrefl 0)
  | succ k=>
   have hk':k < r.length:=by simpa using hk
   simp only [List.getElem_cons_succ] at h
   have:r.all lnOk=false:=by
    rw [List.all_eq_false]
    refine ⟨r[k],List.getElem_mem hk',?_⟩
    unfold lnOk
    rcases h with h|h
    ·rw [h];simp
    ·rw [h.2];simp
   rw [valL_cons]
   rw [this,Bool.and_false]
theorem valL_hd {L:List (List Nat)} (h0:0 < L.length) (h:hd32 L[0]=true):valL L=false:=by
 cases L with
 | nil=>rfl
 | cons f r=>
  rw [valL_cons]
  rw [show hd32 f=true from h];simp
theorem valL_yes {L:List (List Nat)} (h0:0 < L.length) (h:∀k (hk:k < L.length),lowB L[k]=false∧(0 < k→L[k]≠[])):valL L=!hd32 L[0]:=by
 cases L with
 | nil=>exact absurd h0 (by simp)
 | cons f r=>
  have hf:=(h 0 (by simp)).1
  simp only [List.getElem_cons_zero] at hf
  have ha:r.all lnOk=true:=by
   rw [List.all_eq_true]
   intro x hx
   obtain ⟨j,hj,rfl⟩:=List.getElem_of_mem hx
   obtain ⟨h1,h2⟩:=h (j+1) (by simpa using hj)
   simp only [List.getElem_cons_succ] at h1 h2
   unfold lnOk
   rw [h1,decide_eq_false (h2 (Nat.succ_pos _))];rfl
  rw [valL_cons]
  rw [hf,ha];simp
def bodyT:List (List Nat)→List Nat
 | []=>[]
 | f::r=>(if f=[] then [] else 32::f)++10::(r.map fun l=>32::(l++[10])).flatten
def fldT (f:Fd):List Nat:=B f.n++58::bodyT (cutBy 10 (B f.v))
theorem body_join (f:List Nat) (r:List (List Nat)):bodyT (f::r)=(if f=[] then [] else [32])++(joinL [10,32] (f::r)++[10]):=by
 have key:∀(r:List (List Nat)) (f:List Nat),f++10::(r.map fun l=>32::(l++[10])).flatten=joinL [10,32] (f::r)++[10]:=by
  intro r
  induction r with
  | nil=>intro f;simp [joinL]
  | cons x r ih=>
   intro f
   rw [show joinL [10,32] (f::x::r)=f++([10,32]++joinL [10,32] (x::r)) from rfl]
   have:=ih x
   rw [List.map_cons,List.flatten_cons,List.append_assoc,List.append_assoc,←this]
   simp
 rw [←key r f]
 show (if f=[] then [] else 32::f)++_=_
 by_cases h:f=[]
 ·rw [if_pos h,if_pos h,h];rfl
 ·rw [if_neg h,if_neg h];rfl
def stT (st:List Fd):List Nat:=(st.map fldT).flatten
def txL (L:List (List Fd)):List Nat:=joinL [10] (L.map stT)
def noDup:List Fd→List Fd→Bool
 | _,[]=>true
 | seen,f::r=>!getV seen f.n&&noDup (seen++[f]) r
def fdR (f:Fd):Bool:=fnB (B f.n)&&valB (B f.v)
def fdP (f:Fd):Bool:=fnB (B f.n)&&(decide (f.v.size≤60000)&&valB (B f.v))
def stzR (st:List Fd):Bool:=st.all fdR&&noDup [] st&&(decide (1≤st.length)&&decide (st.length≤40))
def stzP (st:List Fd):Bool:=st.all fdP&&noDup [] st&&(decide (1≤st.length)&&decide (st.length≤40))
def okR (L:List (List Fd)):Bool:=L.all stzR&&(decide (L.length≤200)&&decide ((txL L).length≤60000))
def okP (L:List (List Fd)):Bool:=L.all stzP&&(decide (L.length≤200)&&decide ((txL L).length≤60000))
theorem all_eq {α:Type} {p q:α→Bool} {l:List α} (h:∀x ∈ l,p x=q x):l.all p=l.all q:=by
 induction l with
 | nil=>rfl
 | cons x r ih=>rw [List.all_cons,List.all_cons,h x (by simp),ih fun y hy=>h y (by simp [hy])]
theorem okP_eq {L:List (List Fd)} (h:∀st ∈ L,∀f ∈ st,f.v.size≤60000):okP L=okR L:=by
 unfold okP okR
 rw [all_eq (q:=stzR) fun st hst=>by
  unfold stzP stzR
  rw [all_eq (q:=fdR) fun f hf=>by unfold fdP fdR;rw [decide_eq_true (h st hst f hf),Bool.true_and]]]
def ptT (L:List (List Fd)) (i:Nat):List Nat:=if i=0 then [] else joinL [10] ((L.take i).map stT)++[10]
theorem joinL_pre (sep:List Nat):∀(a b:List (List Nat)),joinL sep a <+: joinL sep (a++b)
 | [],b=>List.nil_prefix
 | [x],[]=>List.prefix_rfl
 | [x],y::r=>List.prefix_append _ _
 | x::y::r,b=>by
  have ih:=joinL_pre sep (y::r) b
  rw [List.cons_append,List.cons_append]
  simp only [joinL]
  exact (List.prefix_append_right_inj _).2 ((List.prefix_append_right_inj _).2 ih)
theorem pt_next {L:List (List Fd)} {i:Nat} (hi:i < L.length):ptT L i++stT L[i]=joinL [10] ((L.take (i+1)).map stT):=by
 rw [List.take_succ_eq_append_getElem hi,List.map_append,List.map_singleton,joinL_snoc]
 unfold ptT
 by_cases h:i=0
 ·rw [if_pos h,if_pos (by simp [h])];rfl
 ·rw [if_neg h,if_neg (by intro e;have:=congrArg List.length e;rw [List.length_map,List.length_take] at this;simp only [List.length_nil] at this;omega)];simp
theorem pt_len {L:List (List Fd)} {i k:Nat} (hi:i < L.length):(ptT L i++stT (L[i].take k)).length≤(txL L).length:=by
 have h1:ptT L i++stT (L[i].take k) <+: ptT L i++stT L[i]:=by
  refine (List.prefix_append_right_inj _).2 ?_
  conv=>rhs;rw [←List.take_append_drop k L[i]]
  unfold stT
  rw [List.map_append,List.flatten_append];exact List.prefix_append _ _
 rw [pt_next hi] at h1
 have h2:joinL [10] ((L.take (i+1)).map stT) <+: txL L:=by
  unfold txL
  conv=>rhs;rw [←List.take_append_drop (i+1) L,List.map_append]
  exact joinL_pre _ _ _
 exact (h1.trans h2).length_le
theorem stT_snoc (st:List Fd) (k:Nat) (hk:k < st.length):stT (st.take (k+1))=stT (st.take k)++fldT st[k]:=by
 unfold stT
 rw [List.take_succ_eq_append_getElem hk,List.map_append,List.flatten_append];simp
theorem noDup_step {st:List Fd} {k:Nat} (hk:k < st.length):noDup (st.take k) (st.drop k)=(!getV (st.take k) st[k].n&&noDup (st.take (k+1)) (st.drop (k+1))):=by
 rw [List.drop_eq_getElem_cons hk,List.take_succ_eq_append_getElem hk];rfl
theorem okR_long {L:List (List Fd)} (h:200 < L.length):okR L=false:=by unfold okR;rw [decide_eq_false (by omega)];simp
theorem okP_long {L:List (List Fd)} (h:200 < L.length):okP L=false:=by unfold okP;rw [decide_eq_false (by omega)];simp
theorem okP_stz {L:List (List Fd)} {k:Nat} (hk:k < L.length) (h:stzP L[k]=false):okP L=false:=by
 have:L.all stzP=false:=by rw [List.all_eq_false];exact ⟨L[k],List.getElem_mem hk,by rw [h];decide⟩
 unfold okP;rw [this];rfl
theorem okP_big {L:List (List Fd)} (h:60000 < (txL L).length):okP L=false:=by unfold okP;rw [decide_eq_false (show ¬(txL L).length≤60000 by omega)];simp
theorem all_snoc {α:Type} (p:α→Bool) (l:List α) (k:Nat) (hk:k < l.length):(l.take (k+1)).all p=((l.take k).all p&&p l[k]):=by
 rw [List.take_succ_eq_append_getElem hk,List.all_append];simp
theorem all_not5 {α:Type} {p:α→Bool} {l:List α} {k:Nat} (hk:k < l.length) (h:p l[k]=false):l.all p=false:=by
 rw [List.all_eq_false];exact ⟨l[k],List.getElem_mem hk,by rw [h];decide⟩
theorem Env5.below {w w':World} {N:Nat} (h:Env5 w) (hb:Below N w w') (hN:2 < N):Env5 w':=by
 obtain ⟨m,h⟩:=h
 exact ⟨m,(hb.cell (show (⟨2,0,none⟩:Addr).block < N from hN)).trans h⟩
theorem bldSize:(Tryz.prog.info? 96).map (·.size)=some 2:=by kernel_rfl
theorem bldLies:liesAt Tryz.prog Tryz.prog.depth 96 (2 / Tryz.prog.cellsOf 96) 0 96 1=true:=by kernel_rfl
theorem byteInfo:(Tryz.prog.info? 5).map (fun i=>(i.zero,i.size,i.bytes))=some (some (.int .u8 0),1,1):=by kernel_rfl
theorem bldNe:96≠5:=by decide
abbrev BldAt (B b:Nat) (p:Value) (bs:List Value) (w:World):Prop:=Lib.BuilderAt 96 5 B b p bs w
abbrev IsBld (B b:Nat) (bs:List Value) (w:World):Prop:=Lib.IsBuilder 96 5 B b bs w
set_option maxHeartbeats 1000000 in
theorem copy5_used (b:Nat) (w:World) (h0:w.cell? ⟨b,0,none⟩=some (.pointer (some ⟨b,0,none⟩))) :
  Calls Tryz.prog 98 #[.pointer (some ⟨b,0,none⟩)] w fun e w'=>e=.returned (.tuple #[])∧w'=w:=by
 obtain ⟨j,hj,_⟩:=Option.map_eq_some_iff.1 bldSize
 go_enter Tryz.func98,Tryz.ntmps98
 go_wp2
 rw [Lib.run_neq_ptr_same w _ Tryz.underlying94 hj]
 go_wp2
 go_end0
 exact ⟨rfl,rfl⟩
set_option maxHeartbeats 1000000 in
theorem copy5_fresh (b:Nat) (w:World) (h0:w.cell? ⟨b,0,none⟩=some (.pointer none)) (hsh:w.shape? b=some (96,2)) (hfz:w.frozen? ⟨b,0,none⟩=false) :
  Calls Tryz.prog 98 #[.pointer (some ⟨b,0,none⟩)] w fun e w'=>e=.returned (.tuple #[])∧w'=w.setCell ⟨b,0,none⟩ (.pointer (some ⟨b,0,none⟩)):=by
 obtain ⟨j,hj,hjs⟩:=Option.map_eq_some_iff.1 bldSize
 go_enter Tryz.func98,Tryz.ntmps98
 go_wp2
 rw [Lib.run_to_unsafe w ⟨b,0,none⟩ Tryz.underlying94 Tryz.underlying134 hj (by rw [hjs];decide) hsh (Nat.zero_lt_succ 1)]
 simp only [Result.andThen]
 rw [Oper.upon_value]
 go_wp2
 rw [run_callFunc_extern Tryz.func116 (by kernel_rfl) (by kernel_rfl) (by kernel_rfl) (e:=Extern.AbiNoEscape.same) (by kernel_rfl)]
 rw [Lib.run_noEscape]
 simp only [Result.andThen]
 rw [Oper.upon_value]
 go_wp2
 rw [Lib.run_from_unsafe w ⟨b,0,none⟩ Tryz.underlying134 Tryz.underlying94 hj hsh bldLies]
 simp only [Result.andThen]
 rw [Oper.upon_value]
 go_wp2
 go_end0
 exact ⟨rfl,rfl⟩
theorem copy5_any (B b:Nat) (bs:List Value) (w:World) (h:IsBld B b bs w) :
  Calls Tryz.prog 98 #[.pointer (some ⟨b,0,none⟩)] w fun e w'=>e=.returned (.tuple #[])∧(BldAt B b (.pointer (some ⟨b,0,none⟩)) bs w'∧Below B w w'):=by
 rcases h with h|h
 ·refine (copy5_fresh b w h.cell0 h.shape h.frozen0).mono ?_
  rintro e w' ⟨rfl,rfl⟩
  exact ⟨rfl,h.used _,(Below.refl B w).setCell (p:=⟨b,0,none⟩) h.1 _⟩
 ·refine (copy5_used b w h.cell0).mono ?_
  rintro e w' ⟨rfl,rfl⟩
  exact ⟨rfl,h,Below.refl B _⟩
set_option maxHeartbeats 2000000 in
theorem wbyte5_any (B b:Nat) (bs:List Value) (c:Int) (w:World) (h:IsBld B b bs w) (hlen:bs.length+1≤140737488355328) (hBw:B≤w.heap.size) :
  Calls Tryz.prog 74 #[.pointer (some ⟨b,0,none⟩),.int .u8 c] w fun e w'=>e=.returned .nilIface∧(BldAt B b (.pointer (some ⟨b,0,none⟩)) (bs++[.int .u8 c]) w'∧Below B w w'):=by
 obtain ⟨i0,hi,hz0,hz1,hz2⟩:=info_parts byteInfo
 have CC:=Lib.hid (copy5_any B b bs w h)
 clear h
 go_enter Tryz.func74,Tryz.ntmps74
 go_wp2_with fail
 refine CC.out.mono ?_
 rintro e w1 ⟨rfl,h1,hb1⟩
 obtain ⟨hB,v,hbk,hown,hne⟩:=h1
 have c0:w1.cell? ⟨b,0,none⟩=some (.pointer (some ⟨b,0,none⟩)):=by rw [Lib.cell_of_heap hbk];rfl
 have c1:w1.cell? ⟨b,1,none⟩=some v:=by rw [Lib.cell_of_heap hbk];rfl
 go_wp2_with (at_builtin;refine wpList_append_own _ rfl _ _ 85 rfl B 5 i0 (.int .u8 0) 1 1 Tryz.underlying85 hi hz0 hz1 hz2 rfl (by decide) _ _ _ rfl (hown.alloc _) ⟨w1.heap.size,0,none⟩ 1 1 [.int .u8 c] rfl rfl ?c1 ?c2 ?c3 ?c4 ?c5 ?_)
 case c1=>
  intro j u hj
  match j,hj with
  | 0,hj=>simp at hj;subst hj;simp [Addr.add]
 case c2=>intro u hu;simp at hu;subst hu;rfl
 case c3=>unfold maxLen;omega
 case c4=>omega
 case c5=>have:=hb1.size;simp;omega
 intro v' w2 hown' hgrow _
 have hlt:b < w1.heap.size:=by
  rcases Nat.lt_or_ge b w1.heap.size with h'|h'
  ·exact h'
  ·simp [Array.getElem?_eq_none h'] at hbk
 have hb2:w2.heap[b]?=some (.cells #[.pointer (some ⟨b,0,none⟩),v] 96 (0,0)):=by
  rw [hgrow.block b (by simp;omega) (fun e=>hne e.symm),Lib.alloc_old w1 _ b hlt]
  exact hbk
 have d0:w2.cell? ⟨b,0,none⟩=some (.pointer (some ⟨b,0,none⟩)):=by rw [Lib.cell_of_heap hb2];rfl
 have d1:w2.cell? ⟨b,1,none⟩=some v:=by rw [Lib.cell_of_heap hb2];rfl
 have f1:w2.frozen? ⟨b,1,none⟩=false:=Lib.frozen_of_heap hb2 1
 obtain ⟨g,cap,rfl⟩:∃g cap,v'=.slice (some ⟨g,0,none⟩) (bs.length+1) cap:=by
  rcases hown'.2 with ⟨_,h0⟩|⟨g,cap,cur,hv,_⟩
  ·omega
  ·exact ⟨g,cap,hv⟩
 go_wp2
 go_ret
 refine ⟨rfl,?_,?_⟩
 ·exact Lib.BuilderAt.put (T:=96) (e:=5) hB hb2 (bs':=bs++[.int .u8 c]) (by simpa using hown') bldNe
 ·exact ((hb1.alloc (by have:=hb1.size;omega) _).grown hgrow (by have:=hb1.size;simp;omega) (fun k hk=>(hown.lt k hk).1)).setCell (p:=⟨b,1,none⟩) hB _
set_option maxHeartbeats 2000000 in
theorem wstr5_any (B b:Nat) (bs:List Value) (s:ByteArray) (w:World) (h:IsBld B b bs w) (hlen:bs.length+s.size≤140737488355328) (hBw:B≤w.heap.size) :
  Calls Tryz.prog 75 #[.pointer (some ⟨b,0,none⟩),.string s] w fun e w'=>e=.returned (.tuple #[.int .i64 s.size,.nilIface])∧(BldAt B b (.pointer (some ⟨b,0,none⟩)) (bs++Lib.strCells s) w'∧Below B w w'):=by
 obtain ⟨i0,hi,hz0,hz1,hz2⟩:=info_parts byteInfo
 have CC:=Lib.hid (copy5_any B b bs w h)
 clear h
 go_enter Tryz.func75,Tryz.ntmps75
 go_wp2_with fail
 refine CC.out.mono ?_
 rintro e w1 ⟨rfl,h1,hb1⟩
 obtain ⟨hB,v,hbk,hown,hne⟩:=h1
 have c0:w1.cell? ⟨b,0,none⟩=some (.pointer (some ⟨b,0,none⟩)):=by rw [Lib.cell_of_heap hbk];rfl
 have c1:w1.cell? ⟨b,1,none⟩=some v:=by rw [Lib.cell_of_heap hbk];rfl
 go_wp2_with (at_builtin;refine Lib.wpList_append_own_string _ rfl _ _ 85 9 rfl B 5 i0 Tryz.underlying85 Tryz.underlying9 hi hz0 hz1 hz2 _ _ _ rfl hown s rfl ?c3 ?c4 ?c5 ?_)
 case c3=>unfold maxLen;omega
 case c4=>omega
 case c5=>have:=hb1.size;omega
 intro v' w2 hown' hgrow _
 have hlt:b < w1.heap.size:=by
  rcases Nat.lt_or_ge b w1.heap.size with h'|h'
  ·exact h'
  ·simp [Array.getElem?_eq_none h'] at hbk
 have hb2:w2.heap[b]?=some (.cells #[.pointer (some ⟨b,0,none⟩),v] 96 (0,0)):=by
  rw [hgrow.block b hlt (fun e=>hne e.symm)]
  exact hbk
 have d0:w2.cell? ⟨b,0,none⟩=some (.pointer (some ⟨b,0,none⟩)):=by rw [Lib.cell_of_heap hb2];rfl
 have d1:w2.cell? ⟨b,1,none⟩=some v:=by rw [Lib.cell_of_heap hb2];rfl
 have f1:w2.frozen? ⟨b,1,none⟩=false:=Lib.frozen_of_heap hb2 1
 obtain ⟨ao,n',cap,rfl⟩:∃ao n' cap,v'=.slice ao n' cap:=by
  rcases hown'.2 with ⟨hv,_⟩|⟨g,cap,cur,hv,_⟩
  ·exact ⟨_,_,_,hv⟩
  ·exact ⟨_,_,_,hv⟩
 go_wp2
 go_ret2
 refine ⟨rfl,?_,?_⟩
 ·exact Lib.BuilderAt.put (T:=96) (e:=5) hB hb2 (bs':=bs++Lib.strCells s) (by simpa [Lib.strCells_length] using hown') bldNe
 ·exact (hb1.grown hgrow (by have:=hb1.size;omega) (fun k hk=>(hown.lt k hk).1)).setCell (p:=⟨b,1,none⟩) hB _
theorem ahead_self {c:Nat}:∀{l:List Nat},c ∉ l→ahead c l=l
 | [],_=>rfl
 | x::l,h=>by
  have hx:x≠c:=fun e=>h (by rw [e];simp)
  unfold ahead
  rw [List.takeWhile_cons,if_pos (by rw [bne_iff_ne];exact hx)]
  congr 1
  exact ahead_self fun e=>h (by simp [e])
theorem cut_head {c:Nat} (l:List Nat):∃r,cutBy c l=ahead c l::r∧(c ∈ l→r=cutBy c (l.drop ((ahead c l).length+1)))∧(c ∉ l→r=[]∧ahead c l=l):=by
 by_cases h:c ∈ l
 ·refine ⟨cutBy c (l.drop ((ahead c l).length+1)),?_,fun _=>rfl,fun hh=>absurd h hh⟩
  conv=>lhs;rw [ahead_at h]
  exact cutBy_at ahead_ne _
 ·have e:ahead c l=l:=ahead_self h
  refine ⟨[],?_,fun hh=>absurd hh h,fun _=>⟨rfl,e⟩⟩
  rw [e]
  exact cutBy_none fun x hx hxc=>h (hxc ▸ hx)
theorem joinL_two (sep x:List Nat) {L:List (List Nat)} (h:L≠[]):joinL sep (x::L)=x++(sep++joinL sep L):=by
 cases L with
 | nil=>exact absurd rfl h
 | cons y r=>rfl
theorem repl5_is:∀(k:Nat) (s:List UInt8),Lib.count s [10]=k→(Lib.replaceK [10] [10,32] k s).map UInt8.toNat=joinL [10,32] (cutBy 10 (s.map UInt8.toNat)):=by
 intro k
 induction k with
 | zero=>
  intro s h
  have h':=index_nm 10 s
  rcases h' with ⟨_,hi⟩|⟨hn,_,_⟩
  ·have:=Lib.count_hit (s:=s) (sub:=[10]) (by simp) ((Lib.index_one _ _).trans hi)
   omega
  ·obtain ⟨r,e1,_,e2⟩:=cut_head (c:=10) (s.map UInt8.toNat)
   obtain ⟨rfl,e3⟩:=e2 hn
   rw [e1,e3];rfl
 | succ k ih=>
  intro s h
  rcases index_nm 10 s with ⟨hm,hi⟩|⟨_,hi,_⟩
  ·have hi':Lib.index s [10]=((ahead 10 (s.map UInt8.toNat)).length:Nat):=(Lib.index_one _ _).trans hi
   have hc:=Lib.count_hit (s:=s) (sub:=[10]) (by simp) hi'
   rw [Lib.replaceK_hit _ _ _ _ _ hi',List.map_append,List.map_append,List.map_take]
   have hd:Lib.count (s.drop ((ahead 10 (s.map UInt8.toNat)).length+1)) [10]=k:=by
    have:([10]:List UInt8).length=1:=rfl
    rw [this] at hc;omega
   have hih:=ih _ hd
   rw [List.map_drop] at hih
   obtain ⟨r,e1,e2,_⟩:=cut_head (c:=10) (s.map UInt8.toNat)
   have er:=e2 hm
   rw [e1,joinL_two _ _ (by rw [er];exact cutBy_ne _ _),er,←hih]
   rw [show (UInt8.toNat 10)=10 from rfl] at *
   rw [ahead_take,List.append_assoc]
   rfl
  ·have:=Lib.count_miss ((Lib.index_one s 10).trans hi)
   omega
theorem lines5_any (s:ByteArray) (w:World) (E:Env5 w) (hs:s.size≤65536) :
  Calls Tryz.prog 99 #[.string s,.string { data:=#[10] }] w fun e w'=>e=.returned (.tuple #[.string (mk (ahead 10 (B s))),.string (mk ((B s).drop ((ahead 10 (B s)).length+1))),.bool (decide (10 ∈ B s))])∧Below w.heap.size w w':=by
 obtain ⟨m,hm⟩:=E
 refine (Tryz.strings_Cut s { data:=#[10] } m w (by omega) hm).mono ?_
 rintro e w' ⟨rfl,n,rfl⟩
 refine ⟨?_,belD (Below.refl _ _) n⟩
 obtain ⟨a,b,c⟩:=cut5_is s 10
 show Ending.returned (.tuple #[.string ⟨(Lib.cut s.data.toList [10]).1.toArray⟩,.string ⟨(Lib.cut s.data.toList [10]).2.1.toArray⟩,.bool (Lib.cut s.data.toList [10]).2.2])=_
 rw [a,b,c]
 rfl
theorem repl5_any (s:ByteArray) (w:World) (E:Env5 w) (hs:s.size≤65536) :
  Calls Tryz.prog 100 #[.string s,.string { data:=#[10] },.string { data:=#[10,32] }] w fun e w'=>e=.returned (.string (mk (joinL [10,32] (cutBy 10 (B s)))))∧Below w.heap.size w w':=by
 obtain ⟨m,hm⟩:=E
 refine (Tryz.strings_ReplaceAll s { data:=#[10] } { data:=#[10,32] } m w (by omega) hm (by decide) ?_).mono ?_
 ·have h:=Lib.countB_le { data:=#[10] } (by decide) s.size s (Nat.le_refl _)
  have e:({ data:=#[10,32] }:ByteArray).size=2:=rfl
  rw [e];omega
 ·rintro e w' ⟨rfl,hb⟩
  refine ⟨?_,hb⟩
  congr 2
  apply eq_mk
  have h:=repl5_is _ s.data.toList rfl
  rw [←show (s.data.toList.map UInt8.toNat)=B s from rfl,←h]
  unfold B
  rw [List.toList_toArray]
  rfl
theorem fld_is (f:Fd):fldT f=B f.n++([58]++((if ahead 10 (B f.v)=[] then [] else [32])++(joinL [10,32] (cutBy 10 (B f.v))++[10]))):=by
 obtain ⟨r,e,_⟩:=cut_head (c:=10) (B f.v)
 unfold fldT
 rw [e,body_join];rfl
theorem join_len5 (v:List Nat) (h:v.length≤65536):(joinL [10,32] (cutBy 10 v)).length≤4295163906:=by
 have h1:∀t ∈ cutBy 10 v,t.length≤65536:=fun t ht=>Nat.le_trans (cutBy_mem_len ht) h
 have h2:=joinL_len (sep:=[10,32]) h1
 have h3:(cutBy 10 v).length≤65537:=by rw [cutBy_len];have:=List.count_le_length (a:=10) (l:=v);omega
 have h4:(cutBy 10 v).length*(65536+[10,32].length)≤65537*65538:=by rw [show [10,32].length=2 from rfl];exact Nat.mul_le_mul_right _ h3
 omega
set_option maxHeartbeats 4000000 in
theorem ftext5_any (f:Fd) (w:World) (E:Env5 w) (hn:f.n.size≤65536) (hv:f.v.size≤65536) :
  Calls Tryz.prog 76 #[f.val] w fun e w'=>e=.returned (.string (mk (fldT f)))∧Below w.heap.size w w':=by
 obtain ⟨fn,fv⟩:=f
 have B1:=(Below.refl w.heap.size w).alloc (Nat.le_refl _) (.cells #[.string fn,.string fv] 58)
 have E1:Env5 (w.alloc (.cells #[.string fn,.string fv] 58)):=E.below B1 E.pos
 have CT:=Lib.hid (lines5_any fv _ E1 hv)
 have HB1:=Lib.hid B1
 have HE:=Lib.hid E
 have hq:(w.alloc (.cells #[.string fn,.string fv] 58)).heap.size=w.heap.size+1:=by rw [World.size_alloc]
 have q0:(w.alloc (.cells #[.string fn,.string fv] 58)).cell? ⟨w.heap.size,0,none⟩=some (.string fn):=by simp [go_sem]
 have q1:(w.alloc (.cells #[.string fn,.string fv] 58)).cell? ⟨w.heap.size,1,none⟩=some (.string fv):=by simp [go_sem]
 have Q:=Lib.hid (And.intro q0 (And.intro q1 hq))
 have RP:=Lib.hid (fun w E=>repl5_any fv w E hv)
 have hj:=join_len5 (B fv) (by rw [B_len];exact hv)
 have FI:=Lib.hid (fld_is ⟨fn,fv⟩)
 have HN:=Lib.hid hn
 have HJ:=Lib.hid hj
 show Calls Tryz.prog 76 #[.agg #[.string fn,.string fv]] w _
 clear B1 E1 hq q0 q1 hv hn hj E
 obtain ⟨jt,hjt⟩:∃jt,mk (joinL [10,32] (cutBy 10 (B fv)))=jt:=⟨_,rfl⟩
 have JT:=Lib.hid (show B jt=joinL [10,32] (cutBy 10 (B fv))∧jt.size≤4295163906 from by
  have hB:B jt=joinL [10,32] (cutBy 10 (B fv)):=by
   rw [←hjt]
   refine B_mk ?_
   have key:∀(L:List (List Nat)),(∀t ∈ L,∀c ∈ t,c < 256)→∀c ∈ joinL [10,32] L,c < 256:=by
    intro L
    induction L with
    | nil=>intro _ c hc;cases hc
    | cons x r ih=>
     intro h c hc
     cases r with
     | nil=>exact h x (by simp) c hc
     | cons y r=>
      rw [joinL_two _ _ (by simp)] at hc
      simp only [List.mem_append,List.mem_cons,List.not_mem_nil,or_false] at hc
      rcases hc with hc|(hc|hc)|hc
      ·exact h x (by simp) c hc
      ·omega
      ·omega
      ·exact ih (fun t ht=>h t (by simp [ht])) c hc
   exact key _ fun t ht c hc=>B_lt fv c (cutBy_mem ht c hc).1
  exact ⟨hB,by rw [←B_len,hB];exact HJ.out⟩)
 rw [hjt] at RP
 clear hjt
 obtain ⟨af,haf⟩:∃af,ahead 10 (B fv)=af:=⟨_,rfl⟩
 rw [haf] at CT FI
 have em:=emp_eq (mk af)
 have hmk:B (mk af)=af:=by
  rw [←haf];exact B_mk fun c hc=>B_lt fv c ((List.takeWhile_sublist _).subset hc)
 rw [hmk] at em
 clear hmk haf
 by_cases h0:af=[]
 ·rw [if_pos h0] at FI
  rw [decide_eq_true h0] at em
  obtain ⟨y1,a1,p1,z1⟩:=add_out fn { data:=#[58] } 65536 1 HN.out (by decide)
  obtain ⟨y2,a2,p2,z2⟩:=add_out y1 { data:=#[] } 65537 0 z1 (by decide)
  obtain ⟨y3,a3,p3,z3⟩:=add_out y2 jt 65537 4295163906 z2 JT.out.2
  obtain ⟨y4,a4,p4,z4⟩:=add_out y3 { data:=#[10] } 4295229443 1 z3 (by decide)
  have OUT:=Lib.hid (show mk (fldT ⟨fn,fv⟩)=y4 by
   refine (eq_mk ?_).symm
   rw [FI.out,p4,p3,p2,p1,B_append,B_append,B_append,B_append,JT.out.1]
   show B fn++[58]++[]++_++[10]=B fn++([58]++([]++(_++[10])))
   simp)
  clear p1 p2 p3 p4 z1 z2 z3 z4 h0 FI
  go_enter Tryz.func76,Tryz.ntmps76
  go_wp2_with fail
  refine CT.out.mono ?_
  rintro e w1 ⟨rfl,hb1⟩
  have HBW:=Lib.hid (HB1.out.trans (hb1.mono HB1.out.size))
  have k0:w1.drew.cell? ⟨w.heap.size,0,none⟩=some (.string fn):=(hb1.cell (show (⟨w.heap.size,0,none⟩:Addr).block < _ by rw [Q.out.2.2];exact Nat.lt_succ_self _)).trans Q.out.1
  have k1:w1.drew.cell? ⟨w.heap.size,1,none⟩=some (.string fv):=(hb1.cell (show (⟨w.heap.size,1,none⟩:Addr).block < _ by rw [Q.out.2.2];exact Nat.lt_succ_self _)).trans Q.out.2.1
  have QL:=Lib.hid (show w.heap.size < w1.drew.heap.size from Nat.lt_of_lt_of_le (by rw [Q.out.2.2];exact Nat.lt_succ_self _) hb1.size)
  have HBV:=Lib.hid (show Below w.heap.size w w1.drew from belD HBW.out 1)
  have EV:=Lib.hid (show Env5 w1.drew from HE.out.below HBV.out HE.out.pos)
  have KS:=Lib.hid (fun (W:World) (hb:Below w1.drew.heap.size w1.drew W)=>(show W.cell? ⟨w.heap.size,0,none⟩=some (.string fn)∧W.cell? ⟨w.heap.size,1,none⟩=some (.string fv) from ⟨(hb.cell (show (⟨w.heap.size,0,none⟩:Addr).block < w1.drew.heap.size from QL.out)).trans k0,(hb.cell (show (⟨w.heap.size,1,none⟩:Addr).block < w1.drew.heap.size from QL.out)).trans k1⟩))
  clear hb1
  go_wp2_with fail
  refine wp_region_noPanic ?_
  refine wp_region_L (fun W=>W.cell? ⟨w.heap.size,0,none⟩=some (.string fn)∧W.cell? ⟨w.heap.size,1,none⟩=some (.string fv)) 10 (by kernel_rfl) ⟨k0,k1⟩ (fun hHeld=>?_)
  refine wpAnyL_take (i:=0) (v:=?_) [9,8,4,2,1] rfl (by kernel_rfl) (by kernel_rfl) (by kernel_rfl) (fun _ _ _ h=>h) (by kernel_rfl) (by kernel_rfl) (by kernel_rfl) (Or.inl ⟨by rfl,?_⟩) (by assumption) ?_
  rotate_left
  ·intro w hSw
   try dsimp only at hSw
   go_simp
   first|done|with_reducible rfl
  try simp only [Act.put,List.setIfInBounds_toArray,List.set_cons_zero,List.set_cons_succ]
  refine wpAnyL_take (i:=1) (v:=?_) [9,8,4,2] rfl (by kernel_rfl) (by kernel_rfl) (by kernel_rfl) (fun _ _ _ h=>h) (by kernel_rfl) (by kernel_rfl) (by kernel_rfl) (Or.inl ⟨by rfl,?_⟩) (by assumption) ?_
  rotate_left
  ·intro w hSw
   try dsimp only at hSw
   go_simp
   first|done|with_reducible rfl
  try simp only [Act.put,List.setIfInBounds_toArray,List.set_cons_zero,List.set_cons_succ]
  refine wpAnyL_take (i:=2) (v:=?_) [9,8,4] rfl (by kernel_rfl) (by kernel_rfl) (by kernel_rfl) (fun _ _ _ h=>h) (by kernel_rfl) (by kernel_rfl) (by kernel_rfl) (Or.inl ⟨by rfl,?_⟩) (by assumption) ?_
  rotate_left
  ·intro w hSw
   try dsimp only at hSw
   go_simp
   first|done|with_reducible rfl
  try simp only [Act.put,List.setIfInBounds_toArray,List.set_cons_zero,List.set_cons_succ]
  refine wpAnyL_take (i:=3) (v:=?_) [9,8,4] rfl (by kernel_rfl) (by kernel_rfl) (by kernel_rfl) (fun _ _ _ h=>h) (by kernel_rfl) (by kernel_rfl) (by kernel_rfl) (Or.inl ⟨by rfl,?_⟩) (by assumption) ?_
  rotate_left
  ·intro w hSw
   try dsimp only at hSw
   go_simp
   first|done|with_reducible rfl
  try simp only [Act.put,List.setIfInBounds_toArray,List.set_cons_zero,List.set_cons_succ]
  refine wpAnyL_take (i:=4) (v:=?_) [9,8] rfl (by kernel_rfl) (by kernel_rfl) (by kernel_rfl) (fun _ _ _ h=>h) (by kernel_rfl) (by kernel_rfl) (by kernel_rfl) (Or.inl ⟨by rfl,?_⟩) (by assumption) ?_
  rotate_left
  ·intro w hSw
   try dsimp only at hSw
   go_simp
   first|done|with_reducible rfl
  try simp only [Act.put,List.setIfInBounds_toArray,List.set_cons_zero,List.set_cons_succ]
  refine wpAnyL_take (i:=5) (v:=?_) [9,8,7,6] rfl (by kernel_rfl) (by kernel_rfl) (by kernel_rfl) (fun _ _ _ h=>h) (by kernel_rfl) (by kernel_rfl) (by kernel_rfl) (Or.inl ⟨by rfl,?_⟩) (by assumption) ?_
  rotate_left
  ·intro w hSw
   try dsimp only at hSw
   go_simp
   first|done|with_reducible rfl
  try simp only [Act.put,List.setIfInBounds_toArray,List.set_cons_zero,List.set_cons_succ]
  refine wpAnyL_take (i:=6) (v:=?_) [9,8,7] rfl (by kernel_rfl) (by kernel_rfl) (by kernel_rfl) (fun _ _ _ h=>h) (by kernel_rfl) (by kernel_rfl) (by kernel_rfl) (Or.inl ⟨by rfl,?_⟩) (by assumption) ?_
  rotate_left
  ·intro w hSw
   try dsimp only at hSw
   go_simp
   first|done|with_reducible rfl
  try simp only [Act.put,List.setIfInBounds_toArray,List.set_cons_zero,List.set_cons_succ]
  refine wpAnyL_one (i:=7) (by kernel_rfl) rfl (fun K hK=>?_)
  go_simp
  refine (RP.out _ EV.out).mono ?_
  rintro e w4 ⟨rfl,hb4⟩
  have HB4:=Lib.hid hb4
  clear hb4
  go_wp2_with fail
  refine hK.out _ _ (KS.out _ HB4.out) (fun hHeld=>?_)
  clear hK K
  try simp only [Act.put,List.setIfInBounds_toArray,List.set_cons_zero,List.set_cons_succ]
  refine wpAnyL_one (i:=8) (by kernel_rfl) rfl (fun K hK=>?_)
  go_simp
  refine hK.out _ _ (KS.out _ HB4.out) (fun hHeld=>?_)
  clear hK K
  try simp only [Act.put,List.setIfInBounds_toArray,List.set_cons_zero,List.set_cons_succ]
  refine wpAnyL_one (i:=9) (by kernel_rfl) rfl (fun K hK=>?_)
  go_simp
  refine hK.out _ _ (KS.out _ HB4.out) (fun hHeld=>?_)
  clear hK K
  try simp only [Act.put,List.setIfInBounds_toArray,List.set_cons_zero,List.set_cons_succ]
  refine wpAnyL_last (by kernel_rfl) rfl (by kernel_rfl) (fun K hK=>?_)
  go_simp
  refine hK.out _ _ ?_
  clear hK K
  refine NoPanic.normal ?_
  go_wp2
  go_ret
  exact ⟨by rw [OUT.out];try rfl,HBV.out.trans (HB4.out.mono HBV.out.size)⟩
 ·rw [if_neg h0] at FI
  rw [decide_eq_false h0] at em
  obtain ⟨y1,a1,p1,z1⟩:=add_out fn { data:=#[58] } 65536 1 HN.out (by decide)
  obtain ⟨y2,a2,p2,z2⟩:=add_out y1 { data:=#[32] } 65537 1 z1 (by decide)
  obtain ⟨y3,a3,p3,z3⟩:=add_out y2 jt 65538 4295163906 z2 JT.out.2
  obtain ⟨y4,a4,p4,z4⟩:=add_out y3 { data:=#[10] } 4295229444 1 z3 (by decide)
  have OUT:=Lib.hid (show mk (fldT ⟨fn,fv⟩)=y4 by
   refine (eq_mk ?_).symm
   rw [FI.out,p4,p3,p2,p1,B_append,B_append,B_append,B_append,JT.out.1]
   show B fn++[58]++[32]++_++[10]=B fn++([58]++([32]++(_++[10])))
   simp)
  clear p1 p2 p3 p4 z1 z2 z3 z4 h0 FI
  go_enter Tryz.func76,Tryz.ntmps76
  go_wp2_with fail
  refine CT.out.mono ?_
  rintro e w1 ⟨rfl,hb1⟩
  have HBW:=Lib.hid (HB1.out.trans (hb1.mono HB1.out.size))
  have k0:w1.drew.cell? ⟨w.heap.size,0,none⟩=some (.string fn):=(hb1.cell (show (⟨w.heap.size,0,none⟩:Addr).block < _ by rw [Q.out.2.2];exact Nat.lt_succ_self _)).trans Q.out.1
  have k1:w1.drew.cell? ⟨w.heap.size,1,none⟩=some (.string fv):=(hb1.cell (show (⟨w.heap.size,1,none⟩:Addr).block < _ by rw [Q.out.2.2];exact Nat.lt_succ_self _)).trans Q.out.2.1
  have QL:=Lib.hid (show w.heap.size < w1.drew.heap.size from Nat.lt_of_lt_of_le (by rw [Q.out.2.2];exact Nat.lt_succ_self _) hb1.size)
  have HBV:=Lib.hid (show Below w.heap.size w w1.drew from belD HBW.out 1)
  have EV:=Lib.hid (show Env5 w1.drew from HE.out.below HBV.out HE.out.pos)
  have KS:=Lib.hid (fun (W:World) (hb:Below w1.drew.heap.size w1.drew W)=>(show W.cell? ⟨w.heap.size,0,none⟩=some (.string fn)∧W.cell? ⟨w.heap.size,1,none⟩=some (.string fv) from ⟨(hb.cell (show (⟨w.heap.size,0,none⟩:Addr).block < w1.drew.heap.size from QL.out)).trans k0,(hb.cell (show (⟨w.heap.size,1,none⟩:Addr).block < w1.drew.heap.size from QL.out)).trans k1⟩))
  clear hb1
  go_wp2_with fail
  refine wp_region_noPanic ?_
  refine wp_region_L (fun W=>W.cell? ⟨w.heap.size,0,none⟩=some (.string fn)∧W.cell? ⟨w.heap.size,1,none⟩=some (.string fv)) 10 (by kernel_rfl) ⟨k0,k1⟩ (fun hHeld=>?_)
  refine wpAnyL_take (i:=0) (v:=?_) [9,8,4,2,1] rfl (by kernel_rfl) (by kernel_rfl) (by kernel_rfl) (fun _ _ _ h=>h) (by kernel_rfl) (by kernel_rfl) (by kernel_rfl) (Or.inl ⟨by rfl,?_⟩) (by assumption) ?_
  rotate_left
  ·intro w hSw
   try dsimp only at hSw
   go_simp
   first|done|with_reducible rfl
  try simp only [Act.put,List.setIfInBounds_toArray,List.set_cons_zero,List.set_cons_succ]
  refine wpAnyL_take (i:=1) (v:=?_) [9,8,4,2] rfl (by kernel_rfl) (by kernel_rfl) (by kernel_rfl) (fun _ _ _ h=>h) (by kernel_rfl) (by kernel_rfl) (by kernel_rfl) (Or.inl ⟨by rfl,?_⟩) (by assumption) ?_
  rotate_left
  ·intro w hSw
   try dsimp only at hSw
   go_simp
   first|done|with_reducible rfl
  try simp only [Act.put,List.setIfInBounds_toArray,List.set_cons_zero,List.set_cons_succ]
  refine wpAnyL_take (i:=2) (v:=?_) [9,8,4] rfl (by kernel_rfl) (by kernel_rfl) (by kernel_rfl) (fun _ _ _ h=>h) (by kernel_rfl) (by kernel_rfl) (by kernel_rfl) (Or.inl ⟨by rfl,?_⟩) (by assumption) ?_
  rotate_left
  ·intro w hSw
   try dsimp only at hSw
   go_simp
   first|done|with_reducible rfl
  try simp only [Act.put,List.setIfInBounds_toArray,List.set_cons_zero,List.set_cons_succ]
  refine wpAnyL_take (i:=3) (v:=?_) [9,8,4] rfl (by kernel_rfl) (by kernel_rfl) (by kernel_rfl) (fun _ _ _ h=>h) (by kernel_rfl) (by kernel_rfl) (by kernel_rfl) (Or.inl ⟨by rfl,?_⟩) (by assumption) ?_
  rotate_left
  ·intro w hSw
   try dsimp only at hSw
   go_simp
   first|done|with_reducible rfl
  try simp only [Act.put,List.setIfInBounds_toArray,List.set_cons_zero,List.set_cons_succ]
  refine wpAnyL_take (i:=4) (v:=?_) [9,8] rfl (by kernel_rfl) (by kernel_rfl) (by kernel_rfl) (fun _ _ _ h=>h) (by kernel_rfl) (by kernel_rfl) (by kernel_rfl) (Or.inl ⟨by rfl,?_⟩) (by assumption) ?_
  rotate_left
  ·intro w hSw
   try dsimp only at hSw
   go_simp
   first|done|with_reducible rfl
  try simp only [Act.put,List.setIfInBounds_toArray,List.set_cons_zero,List.set_cons_succ]
  refine wpAnyL_take (i:=5) (v:=?_) [9,8,7,6] rfl (by kernel_rfl) (by kernel_rfl) (by kernel_rfl) (fun _ _ _ h=>h) (by kernel_rfl) (by kernel_rfl) (by kernel_rfl) (Or.inl ⟨by rfl,?_⟩) (by assumption) ?_
  rotate_left
  ·intro w hSw
   try dsimp only at hSw
   go_simp
   first|done|with_reducible rfl
  try simp only [Act.put,List.setIfInBounds_toArray,List.set_cons_zero,List.set_cons_succ]
  refine wpAnyL_take (i:=6) (v:=?_) [9,8,7] rfl (by kernel_rfl) (by kernel_rfl) (by kernel_rfl) (fun _ _ _ h=>h) (by kernel_rfl) (by kernel_rfl) (by kernel_rfl) (Or.inl ⟨by rfl,?_⟩) (by assumption) ?_
  rotate_left
  ·intro w hSw
   try dsimp only at hSw
   go_simp
   first|done|with_reducible rfl
  try simp only [Act.put,List.setIfInBounds_toArray,List.set_cons_zero,List.set_cons_succ]
  refine wpAnyL_one (i:=7) (by kernel_rfl) rfl (fun K hK=>?_)
  go_simp
  refine (RP.out _ EV.out).mono ?_
  rintro e w4 ⟨rfl,hb4⟩
  have HB4:=Lib.hid hb4
  clear hb4
  go_wp2_with fail
  refine hK.out _ _ (KS.out _ HB4.out) (fun hHeld=>?_)
  clear hK K
  try simp only [Act.put,List.setIfInBounds_toArray,List.set_cons_zero,List.set_cons_succ]
  refine wpAnyL_one (i:=8) (by kernel_rfl) rfl (fun K hK=>?_)
  go_simp
  refine hK.out _ _ (KS.out _ HB4.out) (fun hHeld=>?_)
  clear hK K
  try simp only [Act.put,List.setIfInBounds_toArray,List.set_cons_zero,List.set_cons_succ]
  refine wpAnyL_one (i:=9) (by kernel_rfl) rfl (fun K hK=>?_)
  go_simp
  refine hK.out _ _ (KS.out _ HB4.out) (fun hHeld=>?_)
  clear hK K
  try simp only [Act.put,List.setIfInBounds_toArray,List.set_cons_zero,List.set_cons_succ]
  refine wpAnyL_last (by kernel_rfl) rfl (by kernel_rfl) (fun K hK=>?_)
  go_simp
  refine hK.out _ _ ?_
  clear hK K
  refine NoPanic.normal ?_
  go_wp2
  go_ret
  exact ⟨by rw [OUT.out];try rfl,HBV.out.trans (HB4.out.mono HBV.out.size)⟩
theorem hp5_is (l:List UInt8):Lib.hasPrefix l [32]=hd32 (l.map UInt8.toNat):=by
 cases l with
 | nil=>rfl
 | cons c l=>
  show (((32:UInt8)==c)&&List.isPrefixOf [] l)=decide (c.toNat=32)
  rw [show List.isPrefixOf ([]:List UInt8) l=true by cases l<;>rfl,Bool.and_true]
  by_cases h:(32:UInt8)=c
  ·subst h;rfl
  ·have h2:¬c.toNat=32:=fun e=>h (UInt8.toNat_inj.1 (by rw [e];rfl))
   rw [decide_eq_false h2,beq_eq_false_iff_ne];exact h
theorem hp5_any (s:ByteArray) (w:World):Calls Tryz.prog 37 #[.string s,.string { data:=#[32] }] w fun e w'=>e=.returned (.bool (hd32 (B s)))∧w'=w:=by
 refine (Tryz.strings_HasPrefix s { data:=#[32] } w).mono ?_
 rintro e w' ⟨rfl,rfl⟩
 refine ⟨?_,rfl⟩
 show Ending.returned (.bool (Lib.hasPrefix s.data.toList [32]))=_
 rw [hp5_is];rfl
set_option maxHeartbeats 4000000 in
theorem rvalue5_any (v:ByteArray) (w:World) (E:Env5 w) :
  Calls Tryz.prog 97 #[.string v] w fun e w'=>e=.returned (.bool (decide (v.size≤60000)&&valB (B v)))∧Below w.heap.size w w':=by
 by_cases hl:60000 < v.size
 ·have q0:(60000:Int) < (v.size:Int):=by omega
  rw [decide_eq_false (show ¬v.size≤60000 by omega),Bool.false_and]
  clear hl E
  go_enter Tryz.func97,Tryz.ntmps97
  go_wp2
  go_ret
  exact ⟨rfl,Below.refl _ _⟩
 ·have q0:¬(60000:Int) < (v.size:Int):=by omega
  rw [decide_eq_true (show v.size≤60000 by omega),Bool.true_and]
  obtain ⟨m,hm⟩:=E
  have SP:=Lib.hid (split5_any v m w (by omega) hm)
  have VB:=Lib.hid (show valB (B v)=valL (cutBy 10 (B v)) from rfl)
  have HLL:=Lib.hid (show (cutBy 10 (B v)).length≤60001 by rw [cutBy_len];have:=List.count_le_length (a:=10) (l:=B v);rw [B_len] at this;omega)
  have HLB:=Lib.hid (fun l (hl:l ∈ cutBy 10 (B v))=>(show l.length≤60000∧B (mk l)=l from ⟨by have:=cutBy_mem_len hl;rw [B_len] at this;omega,B_mk fun c hc=>B_lt v c (cutBy_mem hl c hc).1⟩))
  have HL0:=Lib.hid (show 0 < (cutBy 10 (B v)).length by rw [cutBy_len];omega)
  rw [VB.out]
  clear VB
  generalize cutBy 10 (B v)=L at *
  clear hl hm
  go_enter Tryz.func97,Tryz.ntmps97
  go_wp2_with fail
  refine SP.out.mono ?_
  rintro e w1 ⟨rfl,rfl⟩
  obtain ⟨W1,hW1⟩:∃W1,W1=w.alloc (.cells ((L.map mk).map Value.string).toArray 9):=⟨_,rfl⟩
  have B1:=Lib.hid (show Below w.heap.size w W1 by rw [hW1];exact (Below.refl _ w).alloc (Nat.le_refl _) _)
  have Z1:=Lib.hid (show W1.heap.size=w.heap.size+1 by rw [hW1,World.size_alloc])
  have LC:=Lib.hid (fun (k:Nat) (hk:k < L.length)=>(show W1.cell? ⟨w.heap.size,k,none⟩=some (.string (mk L[k])) by
   rw [hW1]
   have h:=cells_new w ((L.map mk).map Value.string).toArray 9 k (.string (mk L[k])) (by simp [hk])
   have ea:(⟨w.heap.size,0,none⟩:Addr).add k=⟨w.heap.size,k,none⟩:=by unfold Addr.add;split<;>simp_all
   rw [ea] at h;exact h))
  rw [←hW1]
  clear hW1 SP
  go_wp2
  go_loopw [11] (fun i wr=>∃k:Nat,k≤L.length∧i=.int .i64 k∧(∀j (hj:j < L.length),j < k→lowB L[j]=false∧(0 < j→L[j]≠[]))∧(∀h0:0 < L.length,0 < k→hd32 L[0]=false)∧Below W1.heap.size W1 wr) (fun i _=>L.length - (intOf i).toNat)
  case atStart=>exact ⟨0,Nat.zero_le _,rfl,fun j _ hj=>absurd hj (Nat.not_lt_zero _),fun _ h=>absurd h (Nat.lt_irrefl _),Below.refl _ _⟩
  case round=>
   obtain ⟨k,hk,rfl,hall,hhd,hbel⟩:=hrel
   have HA:=Lib.hid hall
   have HH:=Lib.hid hhd
   have HB:=Lib.hid hbel
   clear hall hhd
   by_cases hlt:k < L.length
   ·have lcell:wr.cell? ⟨w.heap.size,k,none⟩=some (.string (mk L[k])):=(hbel.cell (show (⟨w.heap.size,k,none⟩:Addr).block < W1.heap.size by rw [Z1.out];exact Nat.lt_succ_self _)).trans (LC.out k hlt)
    have hlb:=HLB.out L[k] (List.getElem_mem hlt)
    have LW:=Lib.hid (low5_any (mk L[k]) wr (by rw [←B_len,hlb.2];unfold maxLen;omega))
    rw [hlb.2] at LW
    have HPA:=Lib.hid (fun w=>hp5_any (mk L[k]) w)
    rw [hlb.2] at HPA
    have em:=emp_eq (mk L[k])
    rw [hlb.2] at em
    have NO:=Lib.hid (fun h=>valL_no (L:=L) (k:=k) hlt h)
    have SZ:=Lib.hid HB.out.size
    have FB:=Lib.hid (fun (w2:World) (hb2:Below wr.heap.size wr w2)=>(show Below w.heap.size w w2 from (B1.out.trans (HB.out.mono B1.out.size)).trans (hb2.mono (Nat.le_trans B1.out.size HB.out.size))))
    clear hlb hbel
    by_cases hlow:lowB L[k]=true
    ·have X:=Lib.hid (NO.out (.inl hlow))
     rw [hlow] at LW
     clear hlow
     go_wp2_with fail
     refine LW.out.mono ?_
     rintro e w2 ⟨rfl,hb2⟩
     have HB2:=Lib.hid (FB.out _ hb2)
     clear hb2
     go_wp2
     go_ret
     exact ⟨by rw [X.out];try rfl,HB2.out⟩
    ·have hlow:=Bool.eq_false_iff.2 hlow
     rw [hlow] at LW
     have HLOW:=Lib.hid hlow
     clear hlow
     by_cases hk0:k=0
     ·subst hk0
      cases hh:hd32 L[0]
      ·rw [hh] at HPA
       have HHD:=Lib.hid hh
       clear hh em
       go_wp2_with fail
       refine LW.out.mono ?_
       rintro e w2 ⟨rfl,hb2⟩
       have HB2:=Lib.hid (HB.out.trans (hb2.mono SZ.out))
       clear hb2
       go_wp2_with fail
       refine (HPA.out _).mono ?_
       rintro e w3 ⟨rfl,rfl⟩
       go_wp2
       go_roundw
       case rel=>exact ⟨1,by omega,by go_num,fun j hj h=>by
        obtain rfl:j=0:=by omega
        exact ⟨HLOW.out,fun h=>absurd h (Nat.lt_irrefl _)⟩,fun _ _=>HHD.out,HB2.out⟩
       case measure=>simp [intOf];omega
      ·have X:=Lib.hid (valL_hd hlt hh)
       rw [hh] at HPA
       clear hh em
       go_wp2_with fail
       refine LW.out.mono ?_
       rintro e w2 ⟨rfl,hb2⟩
       have HB2:=Lib.hid (FB.out _ hb2)
       clear hb2
       go_wp2_with fail
       refine (HPA.out _).mono ?_
       rintro e w3 ⟨rfl,rfl⟩
       go_wp2
       go_ret
       exact ⟨by rw [X.out];try rfl,HB2.out⟩
     ·have p0:((k:Int)==0)=false:=by rw [beq_eq_false_iff_ne];omega
      have p1:(0:Int) < (k:Int):=by omega
      by_cases he:L[k]=[]
      ·have X:=Lib.hid (NO.out (.inr ⟨by omega,he⟩))
       rw [decide_eq_true he] at em
       clear he
       go_wp2_with fail
       refine LW.out.mono ?_
       rintro e w2 ⟨rfl,hb2⟩
       have HB2:=Lib.hid (FB.out _ hb2)
       clear hb2
       go_wp2
       go_ret
       exact ⟨by rw [X.out];try rfl,HB2.out⟩
      ·have HNE:=Lib.hid he
       rw [decide_eq_false he] at em
       have HK0:=Lib.hid hk0
       have hbd:=HLL.out
       clear he hk0
       go_wp2_with fail
       refine LW.out.mono ?_
       rintro e w2 ⟨rfl,hb2⟩
       have HB2:=Lib.hid (HB.out.trans (hb2.mono SZ.out))
       clear hb2
       go_wp2
       go_roundw
       case rel=>exact ⟨k+1,by omega,by go_num,fun j hj h=>by
        by_cases hjk:j=k
        ·subst hjk;exact ⟨HLOW.out,fun _=>HNE.out⟩
        ·exact HA.out j hj (by omega),fun h0 _=>HH.out h0 (by have:=HK0.out;omega),HB2.out⟩
       case measure=>simp [intOf];omega
   ·obtain rfl:k=L.length:=by omega
    have X:=Lib.hid (show valL L=true by
     rw [valL_yes HL0.out (fun k hk=>HA.out k hk hk),HH.out HL0.out HL0.out];rfl)
    have FB:=Lib.hid (B1.out.trans (HB.out.mono B1.out.size))
    clear hbel
    go_wp2
    go_ret
    exact ⟨by rw [X.out];try rfl,FB.out⟩
end Go.Proofs.YtbljkpbaceiaiaaGreatDoor
