/- What the laws rest on: N10n. -/
import Derived.Test.YthchfkhpmgkghaaGreatDoorQBYZA
set_option maxRecDepth 100000
set_option linter.unusedVariables false
set_option linter.unusedSimpArgs false
namespace Go.Proofs.YthchfkhpmgkghaaGreatDoor
open Go.RowKit
def atCd:Atm:=⟨{ data:=#[99,100] },0,{ data:=#[] }⟩
def atVv:Atm:=⟨{ data:=#[118,118] },0,{ data:=#[] }⟩
def atEf:Atm:=⟨{ data:=#[101,102] },0,{ data:=#[] }⟩
def exA10:Ent:=⟨{ data:=#[97,98] },{ data:=#[49] },[[atCd,atVv]],[],[],[]⟩
def exC10:Ent:=⟨{ data:=#[99,100] },{ data:=#[49] },[],[],[atEf],[]⟩
def exE10:Ent:=⟨{ data:=#[101,102] },{ data:=#[49] },[],[],[],[atVv]⟩
def ex10:List Ent:=[exA10,exC10,exE10]
theorem ex10_all:ex10.all rgtE=true:=by kernel_rfl
theorem ex10_right:rightH []=true:=by kernel_rfl
theorem ex10_ent:entU ex10 (([]:List Hr).map fun y=>y.e)=ex10:=by
 have h:decide (entU ex10 (([]:List Hr).map fun y=>y.e)=ex10)=true:=by kernel_rfl
 exact of_decide_eq_true h
theorem ex10_flt (i r:List Atm) (l:List Int) (T:List Ft) (h:decide (fltS ex10 (heldU ex10 []) i r l=T)=true):fltS ex10 (heldU ex10 []) i r l=T:=of_decide_eq_true h
theorem ex10_sm:∀x ∈ ex10,Sm x:=by
 intro x hx
 simp only [ex10,List.mem_cons,List.not_mem_nil,or_false] at hx
 have no:∀a ∈ ([]:List Atm),a.n.size≤100∧a.v.size≤100:=fun a ha=>absurd ha List.not_mem_nil
 have nog:∀g ∈ ([]:List (List Atm)),Lt g:=fun a ha=>absurd ha List.not_mem_nil
 have n1:∀z:Atm,z.n.size≤100→z.v.size≤100→∀a ∈ [z],a.n.size≤100∧a.v.size≤100:=fun z h1 h2 a ha=>by rw [List.mem_singleton.1 ha];exact ⟨h1,h2⟩
 rcases hx with rfl|rfl|rfl
 ·refine ⟨⟨by decide,no⟩,⟨by decide,no⟩,by decide,by decide,by decide,by decide,fun g hg=>?_,nog⟩
  have hg:g ∈ [[atCd,atVv]]:=hg
  rw [List.mem_singleton.1 hg]
  refine ⟨by decide,fun a ha=>?_⟩
  rcases List.mem_cons.1 ha with rfl|ha
  ·exact ⟨by decide,by decide⟩
  ·rw [List.mem_singleton.1 ha];exact ⟨by decide,by decide⟩
 ·exact ⟨⟨by decide,n1 atEf (by decide) (by decide)⟩,⟨by decide,no⟩,by decide,by decide,by decide,by decide,nog,nog⟩
 ·exact ⟨⟨by decide,no⟩,⟨by decide,n1 atVv (by decide) (by decide)⟩,by decide,by decide,by decide,by decide,nog,nog⟩
theorem ex10_fw:Fw10 ex10 []:=⟨⟨by decide,ex10_sm⟩,by decide,fun y hy=>absurd hy List.not_mem_nil⟩
theorem rd_pair10 {w:World} {S:Nat→Prop} {p:Nat} {T:TypeId} {x y:Atm} (hb:w.heap[p]?=some (.cells #[.string x.n,.int .i64 x.o,.string x.v,.string y.n,.int .i64 y.o,.string y.v] T (0,0))) (hS:S p):rdAtms w S [x,y] [.slice (some ⟨p,0,none⟩) 2 2]:=
 rd_block rdAtm_good (l:=[x,y]) (css:=[[.string x.n,.int .i64 x.o,.string x.v],[.string y.n,.int .i64 y.o,.string y.v]]) hb hS rfl rfl (fun k hk=>by
  match k,hk with
  | 0,_=>exact ⟨_,rfl,rfl⟩
  | 1,_=>exact ⟨_,rfl,rfl⟩
  | k+2,hk=>exact absurd (show k+2 < 2 from hk) (by omega)) (by simp)
theorem rd_fts10 {w:World} {S:Nat→Prop} {g:Nat} {T:TypeId} {l:List Ft} {blk:Array Value} (hb:w.heap[g]?=some (.cells blk T (0,0))) (hk:blk.toList=(l.map fun f=>[Value.int .i64 f.k,Value.int .i64 f.a,Value.int .i64 f.b]).flatten) (hS:S g) (hl:l.length≤1000):rdFts w S l [.slice (some ⟨g,0,none⟩) l.length l.length]:=
 rd_block rdFt_good (l:=l) (css:=l.map fun f=>[Value.int .i64 f.k,Value.int .i64 f.a,Value.int .i64 f.b]) hb hS (List.length_map _) hk (fun k hk=>⟨[.int .i64 l[k].k,.int .i64 l[k].a,.int .i64 l[k].b],by simp [hk],rfl⟩) hl
theorem new10n (w:World) (o:Obj) (n:Nat) (h:n=w.heap.size):(w.alloc o).heap[n]?=some o:=by subst h;exact heap_alloc_new w o
set_option maxHeartbeats 16000000 in
theorem shown10_any (w:World) (E:EnvR w):Calls Tryz.prog 9 #[] w fun e w'=>e=.returned (.bool true)∧Below w.heap.size w w':=by
 obtain ⟨W8,hW8⟩:∃W,W=((((((((w.alloc (.cells #[.string { data:=#[99,100] },.int .i64 0,.string { data:=#[] },.string { data:=#[118,118] },.int .i64 0,.string { data:=#[] }] 62)).alloc (.cells #[.slice (some ⟨w.heap.size,0,none⟩) 2 2] 68)).alloc (.cells #[.string { data:=#[97,98] },.string { data:=#[49] },.slice (some ⟨w.heap.size+1,0,none⟩) 1 1,.slice none 0 0,.slice none 0 0,.slice none 0 0] 67)).alloc (.cells #[.string { data:=#[101,102] },.int .i64 0,.string { data:=#[] }] 62)).alloc (.cells #[.string { data:=#[99,100] },.string { data:=#[49] },.slice none 0 0,.slice none 0 0,.slice (some ⟨w.heap.size+3,0,none⟩) 1 1,.slice none 0 0] 67)).alloc (.cells #[.string { data:=#[118,118] },.int .i64 0,.string { data:=#[] }] 62)).alloc (.cells #[.string { data:=#[101,102] },.string { data:=#[49] },.slice none 0 0,.slice none 0 0,.slice none 0 0,.slice (some ⟨w.heap.size+5,0,none⟩) 1 1] 67)).alloc (.cells #[.string { data:=#[97,98] },.string { data:=#[49] },.slice (some ⟨w.heap.size+1,0,none⟩) 1 1,.slice none 0 0,.slice none 0 0,.slice none 0 0,.string { data:=#[99,100] },.string { data:=#[49] },.slice none 0 0,.slice none 0 0,.slice (some ⟨w.heap.size+3,0,none⟩) 1 1,.slice none 0 0,.string { data:=#[101,102] },.string { data:=#[49] },.slice none 0 0,.slice none 0 0,.slice none 0 0,.slice (some ⟨w.heap.size+5,0,none⟩) 1 1] 67)):=⟨_,rfl⟩
 have b8:Below w.heap.size w W8:=by rw [hW8];exact (((((((((Below.refl _ w).alloc (Nat.le_refl _) _).alloc (by simp) _).alloc (by simp;omega) _).alloc (by simp;omega) _).alloc (by simp;omega) _).alloc (by simp;omega) _).alloc (by simp;omega) _).alloc (by simp;omega) _)
 have s8:W8.heap.size=w.heap.size+8:=by rw [hW8];simp
 have h0:W8.heap[w.heap.size]?=some (.cells #[.string { data:=#[99,100] },.int .i64 0,.string { data:=#[] },.string { data:=#[118,118] },.int .i64 0,.string { data:=#[] }] 62):=by
  rw [hW8]
  have:=new10n w (.cells #[.string { data:=#[99,100] },.int .i64 0,.string { data:=#[] },.string { data:=#[118,118] },.int .i64 0,.string { data:=#[] }] 62) (w.heap.size) (by simp)
  exact old_heap _ (old_heap _ (old_heap _ (old_heap _ (old_heap _ (old_heap _ (old_heap _ (this)))))))
 have h1:W8.heap[w.heap.size+1]?=some (.cells #[.slice (some ⟨w.heap.size,0,none⟩) 2 2] 68):=by
  rw [hW8]
  have:=new10n (w.alloc (.cells #[.string { data:=#[99,100] },.int .i64 0,.string { data:=#[] },.string { data:=#[118,118] },.int .i64 0,.string { data:=#[] }] 62)) (.cells #[.slice (some ⟨w.heap.size,0,none⟩) 2 2] 68) (w.heap.size+1) (by simp)
  exact old_heap _ (old_heap _ (old_heap _ (old_heap _ (old_heap _ (old_heap _ (this))))))
 have h3:W8.heap[w.heap.size+3]?=some (.cells #[.string { data:=#[101,102] },.int .i64 0,.string { data:=#[] }] 62):=by
  rw [hW8]
  have:=new10n (((w.alloc (.cells #[.string { data:=#[99,100] },.int .i64 0,.string { data:=#[] },.string { data:=#[118,118] },.int .i64 0,.string { data:=#[] }] 62)).alloc (.cells #[.slice (some ⟨w.heap.size,0,none⟩) 2 2] 68)).alloc (.cells #[.string { data:=#[97,98] },.string { data:=#[49] },.slice (some ⟨w.heap.size+1,0,none⟩) 1 1,.slice none 0 0,.slice none 0 0,.slice none 0 0] 67)) (.cells #[.string { data:=#[101,102] },.int .i64 0,.string { data:=#[] }] 62) (w.heap.size+3) (by simp)
  exact old_heap _ (old_heap _ (old_heap _ (old_heap _ (this))))
 have h5:W8.heap[w.heap.size+5]?=some (.cells #[.string { data:=#[118,118] },.int .i64 0,.string { data:=#[] }] 62):=by
  rw [hW8]
  have:=new10n (((((w.alloc (.cells #[.string { data:=#[99,100] },.int .i64 0,.string { data:=#[] },.string { data:=#[118,118] },.int .i64 0,.string { data:=#[] }] 62)).alloc (.cells #[.slice (some ⟨w.heap.size,0,none⟩) 2 2] 68)).alloc (.cells #[.string { data:=#[97,98] },.string { data:=#[49] },.slice (some ⟨w.heap.size+1,0,none⟩) 1 1,.slice none 0 0,.slice none 0 0,.slice none 0 0] 67)).alloc (.cells #[.string { data:=#[101,102] },.int .i64 0,.string { data:=#[] }] 62)).alloc (.cells #[.string { data:=#[99,100] },.string { data:=#[49] },.slice none 0 0,.slice none 0 0,.slice (some ⟨w.heap.size+3,0,none⟩) 1 1,.slice none 0 0] 67)) (.cells #[.string { data:=#[118,118] },.int .i64 0,.string { data:=#[] }] 62) (w.heap.size+5) (by simp)
  exact old_heap _ (old_heap _ (this))
 have h7:W8.heap[w.heap.size+7]?=some (.cells #[.string { data:=#[97,98] },.string { data:=#[49] },.slice (some ⟨w.heap.size+1,0,none⟩) 1 1,.slice none 0 0,.slice none 0 0,.slice none 0 0,.string { data:=#[99,100] },.string { data:=#[49] },.slice none 0 0,.slice none 0 0,.slice (some ⟨w.heap.size+3,0,none⟩) 1 1,.slice none 0 0,.string { data:=#[101,102] },.string { data:=#[49] },.slice none 0 0,.slice none 0 0,.slice none 0 0,.slice (some ⟨w.heap.size+5,0,none⟩) 1 1] 67):=by
  rw [hW8]
  have:=new10n (((((((w.alloc (.cells #[.string { data:=#[99,100] },.int .i64 0,.string { data:=#[] },.string { data:=#[118,118] },.int .i64 0,.string { data:=#[] }] 62)).alloc (.cells #[.slice (some ⟨w.heap.size,0,none⟩) 2 2] 68)).alloc (.cells #[.string { data:=#[97,98] },.string { data:=#[49] },.slice (some ⟨w.heap.size+1,0,none⟩) 1 1,.slice none 0 0,.slice none 0 0,.slice none 0 0] 67)).alloc (.cells #[.string { data:=#[101,102] },.int .i64 0,.string { data:=#[] }] 62)).alloc (.cells #[.string { data:=#[99,100] },.string { data:=#[49] },.slice none 0 0,.slice none 0 0,.slice (some ⟨w.heap.size+3,0,none⟩) 1 1,.slice none 0 0] 67)).alloc (.cells #[.string { data:=#[118,118] },.int .i64 0,.string { data:=#[] }] 62)).alloc (.cells #[.string { data:=#[101,102] },.string { data:=#[49] },.slice none 0 0,.slice none 0 0,.slice none 0 0,.slice (some ⟨w.heap.size+5,0,none⟩) 1 1] 67)) (.cells #[.string { data:=#[97,98] },.string { data:=#[49] },.slice (some ⟨w.heap.size+1,0,none⟩) 1 1,.slice none 0 0,.slice none 0 0,.slice none 0 0,.string { data:=#[99,100] },.string { data:=#[49] },.slice none 0 0,.slice none 0 0,.slice (some ⟨w.heap.size+3,0,none⟩) 1 1,.slice none 0 0,.string { data:=#[101,102] },.string { data:=#[49] },.slice none 0 0,.slice none 0 0,.slice none 0 0,.slice (some ⟨w.heap.size+5,0,none⟩) 1 1] 67) (w.heap.size+7) (by simp)
  exact this
 have R0:=rd_pair10 (S:=lt_ W8.heap.size) (x:=atCd) (y:=atVv) h0 (by unfold lt_;omega)
 have R1:rdGrps W8 (lt_ W8.heap.size) [[atCd,atVv]] [.slice (some ⟨w.heap.size+1,0,none⟩) 1 1]:=one_rd (ty:=68) rdAtms_good h1 R0 (by unfold lt_;omega)
 have R3:rdAtms W8 (lt_ W8.heap.size) [atEf] [.slice (some ⟨w.heap.size+3,0,none⟩) 1 1]:=one_rd (ty:=62) rdAtm_good h3 rfl (by unfold lt_;omega)
 have R5:rdAtms W8 (lt_ W8.heap.size) [atVv] [.slice (some ⟨w.heap.size+5,0,none⟩) 1 1]:=one_rd (ty:=62) rdAtm_good h5 rfl (by unfold lt_;omega)
 have RI:=Lib.hid (show rdEnts W8 (lt_ W8.heap.size) ex10 [.slice (some ⟨w.heap.size+7,0,none⟩) 3 3] from rd_three9 h7 rfl (by unfold lt_;omega) ⟨_,_,_,_,rfl,R1,rdRow_nil _ _,rdRow_nil _ _,rdRow_nil _ _⟩ ⟨_,_,_,_,rfl,rdRow_nil _ _,rdRow_nil _ _,R3,rdRow_nil _ _⟩ ⟨_,_,_,_,rfl,rdRow_nil _ _,rdRow_nil _ _,rdRow_nil _ _,R5⟩)
 have KN:=Lib.hid (new9_any (some ⟨w.heap.size+7,0,none⟩) 3 3 ex10 none 0 0 [] W8 RI.out (rdRow_nil _ _) (fun x hx=>(ex10_sm x hx).sz) (fun y hy=>absurd hy List.not_mem_nil) (E.below b8))
 have HE:=Lib.hid (fun (W:World) (hb:Below w.heap.size w W)=>E.below hb)
 have B8:=Lib.hid b8
 clear b8 h0 h1 h3 h5 h7 s8 E R0 R1 R3 R5 RI
 go_enter Tryz.func9,Tryz.ntmps9
 go_wp2_with fail
 rw [←hW8]
 clear hW8
 refine KN.out.mono ?_
 rintro e w9 ⟨hnr,hb⟩
 obtain ⟨b,rfl,hup⟩:=hnr.2.2 ⟨ex10_all,ex10_right⟩ (by rw [ex10_ent];decide)
 have UFF:=uf_of (L:=ex10) (m:=[]) ⟨ex10_all,ex10_right⟩ ex10_fw (by rw [ex10_ent];decide)
 rw [ex10_ent] at hup UFF
 have B9:=Lib.hid (bel_in B8.out hb)
 have HU:=Lib.hid (fun (W:World) (hx:Below w9.heap.size w9 W)=>(UFF.uq hup).below hx)
 have HE9:=Lib.hid (fun (W:World) (hx:Below w9.heap.size w9 W)=>HE.out W (bel_in B9.out hx))
 clear hb hnr hup KN HE UFF
 obtain ⟨WQ,hWQ⟩:∃W,W=(((w9.alloc (.cells #[.string { data:=#[99,100] },.int .i64 0,.string { data:=#[] }] 62)).alloc (.cells #[.string { data:=#[118,118] },.int .i64 0,.string { data:=#[] }] 62)).alloc (.cells #[.slice (some ⟨w9.heap.size,0,none⟩) 1 1,.slice (some ⟨w9.heap.size+1,0,none⟩) 1 1,.bool false] 26)):=⟨_,rfl⟩
 have bq:Below w9.heap.size w9 WQ:=by rw [hWQ];exact (((Below.refl _ w9).alloc (Nat.le_refl _) _).alloc (by simp) _).alloc (by simp;omega) _
 have sq:WQ.heap.size=w9.heap.size+3:=by rw [hWQ];simp
 have g0:WQ.heap[w9.heap.size]?=some (.cells #[.string { data:=#[99,100] },.int .i64 0,.string { data:=#[] }] 62):=by
  rw [hWQ]
  have:=new10n w9 (.cells #[.string { data:=#[99,100] },.int .i64 0,.string { data:=#[] }] 62) (w9.heap.size) (by simp)
  exact old_heap _ (old_heap _ (this))
 have g1:WQ.heap[w9.heap.size+1]?=some (.cells #[.string { data:=#[118,118] },.int .i64 0,.string { data:=#[] }] 62):=by
  rw [hWQ]
  have:=new10n (w9.alloc (.cells #[.string { data:=#[99,100] },.int .i64 0,.string { data:=#[] }] 62)) (.cells #[.string { data:=#[118,118] },.int .i64 0,.string { data:=#[] }] 62) (w9.heap.size+1) (by simp)
  exact old_heap _ (this)
 have QI:=Lib.hid (fun (W:World) (hx:Below WQ.heap.size WQ W)=>(rdAtms_good.up (rdAtms_good.below (show rdAtms WQ (lt_ WQ.heap.size) [atCd] [.slice (some ⟨w9.heap.size,0,none⟩) 1 1] from one_rd (ty:=62) rdAtm_good g0 rfl (by unfold lt_;omega)) hx) hx.size:rdAtms W (lt_ W.heap.size) [atCd] [.slice (some ⟨w9.heap.size,0,none⟩) 1 1]))
 have QR:=Lib.hid (fun (W:World) (hx:Below WQ.heap.size WQ W)=>(rdAtms_good.up (rdAtms_good.below (show rdAtms WQ (lt_ WQ.heap.size) [atVv] [.slice (some ⟨w9.heap.size+1,0,none⟩) 1 1] from one_rd (ty:=62) rdAtm_good g1 rfl (by unfold lt_;omega)) hx) hx.size:rdAtms W (lt_ W.heap.size) [atVv] [.slice (some ⟨w9.heap.size+1,0,none⟩) 1 1]))
 have r0:WQ.cell? ⟨w9.heap.size+2,0,none⟩=some (.slice (some ⟨w9.heap.size,0,none⟩) 1 1):=by rw [hWQ];simp [go_sem]
 have r1:WQ.cell? ⟨w9.heap.size+2,1,none⟩=some (.slice (some ⟨w9.heap.size+1,0,none⟩) 1 1):=by rw [hWQ];simp [go_sem]
 have r2:WQ.cell? ⟨w9.heap.size+2,2,none⟩=some (.bool false):=by rw [hWQ];simp [go_sem]
 have BQ:=Lib.hid bq
 have SQ:=Lib.hid sq
 have KX:=Lib.hid (fun (W:World) (hx:Below WQ.heap.size WQ W)=>(show W.cell? ⟨w9.heap.size+2,0,none⟩=some (.slice (some ⟨w9.heap.size,0,none⟩) 1 1)∧W.cell? ⟨w9.heap.size+2,1,none⟩=some (.slice (some ⟨w9.heap.size+1,0,none⟩) 1 1)∧W.cell? ⟨w9.heap.size+2,2,none⟩=some (.bool false) from ⟨keep6 hx r0,keep6 hx r1,keep6 hx r2⟩))
 clear bq sq g0 g1 r0 r1 r2
 go_upto_region 8 with fail
 rw [←hWQ]
 clear hWQ
 obtain ⟨WI1,hWI1⟩:∃W,W=WQ.alloc (.cells #[.int .i64 0] 3):=⟨_,rfl⟩
 have bi1:Below WQ.heap.size WQ WI1:=by rw [hWI1];exact (Below.refl _ WQ).alloc (Nat.le_refl _) _
 have ri1:rdInts WI1 (lt_ WI1.heap.size) [0] [.slice (some ⟨WQ.heap.size,0,none⟩) 1 1]:=rd_ints9 (l:=[0]) (by rw [hWI1];exact heap_alloc_new WQ _) rfl (by rw [hWI1];unfold lt_;simp) (by decide)
 have BI1:=Lib.hid (bel_in (Below.refl WQ.heap.size WQ) bi1)
 have KF1:=Lib.hid (vfaults_any b ex10 [] none 0 [] none 0 [] false (some ⟨WQ.heap.size,0,none⟩) 1 1 [0] WI1 (HU.out _ (bel_in BQ.out BI1.out)) ri1 (rdRow_nil _ _) (rdRow_nil _ _) (fun a ha=>absurd ha List.not_mem_nil) (fun a ha=>absurd ha List.not_mem_nil) (HE9.out _ (bel_in BQ.out BI1.out)) (by decide) (by rw [ex10_flt [] [] [0] [⟨3,0,0⟩] (by kernel_rfl)];decide))
 rw [ex10_flt [] [] [0] [⟨3,0,0⟩] (by kernel_rfl),show (rqB [] []&&setB ex10.length [0])=true by kernel_rfl] at KF1
 have BJ1:=Lib.hid bi1
 clear bi1 ri1
 go_wp2_with fail
 rw [←hWI1]
 refine KF1.out.mono ?_
 rintro e wa ⟨hf,hb⟩
 obtain ⟨AF1,cf1,rfl,hrf⟩:=hf.2 rfl
 have BW1:=Lib.hid (bel_in BI1.out hb)
 have BX1:=Lib.hid (bel_in BJ1.out hb)
 have RF1:=Lib.hid (fun (W:World) (hx:Below wa.heap.size wa W)=>(rdFts_good.up (rdFts_good.below (rdFts_good.more hrf fun k hk=>hk.2:rdFts wa (lt_ wa.heap.size) [⟨3,0,0⟩] _) hx) hx.size:rdFts W (lt_ W.heap.size) [⟨3,0,0⟩] [.slice AF1 ([⟨3,0,0⟩]:List Ft).length cf1]))
 clear hf hb hrf KF1 hWI1
 obtain ⟨WI2,hWI2⟩:∃W,W=wa.alloc (.cells #[.int .i64 0,.int .i64 1,.int .i64 2] 3):=⟨_,rfl⟩
 have bi2:Below wa.heap.size wa WI2:=by rw [hWI2];exact (Below.refl _ wa).alloc (Nat.le_refl _) _
 have ri2:rdInts WI2 (lt_ WI2.heap.size) [0,1,2] [.slice (some ⟨wa.heap.size,0,none⟩) 3 3]:=rd_ints9 (l:=[0,1,2]) (by rw [hWI2];exact heap_alloc_new wa _) rfl (by rw [hWI2];unfold lt_;simp) (by decide)
 have BI2:=Lib.hid (bel_in BW1.out bi2)
 have KF2:=Lib.hid (vfaults_any b ex10 [] none 0 [] none 0 [] false (some ⟨wa.heap.size,0,none⟩) 3 3 [0,1,2] WI2 (HU.out _ (bel_in BQ.out BI2.out)) ri2 (rdRow_nil _ _) (rdRow_nil _ _) (fun a ha=>absurd ha List.not_mem_nil) (fun a ha=>absurd ha List.not_mem_nil) (HE9.out _ (bel_in BQ.out BI2.out)) (by decide) (by rw [ex10_flt [] [] [0,1,2] [⟨2,1,2⟩] (by kernel_rfl)];decide))
 rw [ex10_flt [] [] [0,1,2] [⟨2,1,2⟩] (by kernel_rfl),show (rqB [] []&&setB ex10.length [0,1,2])=true by kernel_rfl] at KF2
 have BJ2:=Lib.hid bi2
 clear bi2 ri2
 go_wp2_with fail
 rw [←hWI2]
 refine KF2.out.mono ?_
 rintro e wb ⟨hf,hb⟩
 obtain ⟨AF2,cf2,rfl,hrf⟩:=hf.2 rfl
 have BW2:=Lib.hid (bel_in BI2.out hb)
 have BX2:=Lib.hid (bel_in BJ2.out hb)
 have RF2:=Lib.hid (fun (W:World) (hx:Below wb.heap.size wb W)=>(rdFts_good.up (rdFts_good.below (rdFts_good.more hrf fun k hk=>hk.2:rdFts wb (lt_ wb.heap.size) [⟨2,1,2⟩] _) hx) hx.size:rdFts W (lt_ W.heap.size) [⟨2,1,2⟩] [.slice AF2 ([⟨2,1,2⟩]:List Ft).length cf2]))
 clear hf hb hrf KF2 hWI2
 obtain ⟨WI3,hWI3⟩:∃W,W=wb.alloc (.cells #[.int .i64 2] 3):=⟨_,rfl⟩
 have bi3:Below wb.heap.size wb WI3:=by rw [hWI3];exact (Below.refl _ wb).alloc (Nat.le_refl _) _
 have ri3:rdInts WI3 (lt_ WI3.heap.size) [2] [.slice (some ⟨wb.heap.size,0,none⟩) 1 1]:=rd_ints9 (l:=[2]) (by rw [hWI3];exact heap_alloc_new wb _) rfl (by rw [hWI3];unfold lt_;simp) (by decide)
 have BI3:=Lib.hid (bel_in BW2.out bi3)
 have KF3:=Lib.hid (vfaults_any b ex10 [] (some ⟨w9.heap.size,0,none⟩) 1 [atCd] (some ⟨w9.heap.size+1,0,none⟩) 1 [atVv] false (some ⟨wb.heap.size,0,none⟩) 1 1 [2] WI3 (HU.out _ (bel_in BQ.out BI3.out)) ri3 (QI.out _ BI3.out) (QR.out _ BI3.out) (fun a ha=>by rw [List.mem_singleton.1 ha];decide) (fun a ha=>by rw [List.mem_singleton.1 ha];decide) (HE9.out _ (bel_in BQ.out BI3.out)) (by decide) (by rw [ex10_flt [atCd] [atVv] [2] [⟨5,0,0⟩,⟨6,0,2⟩] (by kernel_rfl)];decide))
 rw [ex10_flt [atCd] [atVv] [2] [⟨5,0,0⟩,⟨6,0,2⟩] (by kernel_rfl),show (rqB [atCd] [atVv]&&setB ex10.length [2])=true by kernel_rfl] at KF3
 have BJ3:=Lib.hid bi3
 clear bi3 ri3
 obtain ⟨p0,p1,p2⟩:=KX.out wb BW2.out
 have p0:wb.cell? ⟨w9.heap.size+1+1,0,none⟩=some (.slice (some ⟨w9.heap.size,0,none⟩) 1 1):=p0
 have p1:wb.cell? ⟨w9.heap.size+1+1,1,none⟩=some (.slice (some ⟨w9.heap.size+1,0,none⟩) 1 1):=p1
 have p2:wb.cell? ⟨w9.heap.size+1+1,2,none⟩=some (.bool false):=p2
 go_wp2_with fail
 rw [←hWI3]
 refine KF3.out.mono ?_
 rintro e wc ⟨hf,hb⟩
 obtain ⟨AF3,cf3,rfl,hrf⟩:=hf.2 rfl
 have BW3:=Lib.hid (bel_in BI3.out hb)
 have BX3:=Lib.hid (bel_in BJ3.out hb)
 have RF3:=Lib.hid (fun (W:World) (hx:Below wc.heap.size wc W)=>(rdFts_good.up (rdFts_good.below (rdFts_good.more hrf fun k hk=>hk.2:rdFts wc (lt_ wc.heap.size) [⟨5,0,0⟩,⟨6,0,2⟩] _) hx) hx.size:rdFts W (lt_ W.heap.size) [⟨5,0,0⟩,⟨6,0,2⟩] [.slice AF3 ([⟨5,0,0⟩,⟨6,0,2⟩]:List Ft).length cf3]))
 clear hf hb hrf KF3 hWI3 p0 p1 p2
 obtain ⟨WA1,hWA1⟩:∃W,W=wc.alloc (.cells #[.int .i64 3,.int .i64 0,.int .i64 0] 75):=⟨_,rfl⟩
 have ba1:Below wc.heap.size wc WA1:=by rw [hWA1];exact (Below.refl _ wc).alloc (Nat.le_refl _) _
 have ra1:rdFts WA1 (lt_ WA1.heap.size) [⟨3,0,0⟩] [.slice (some ⟨wc.heap.size,0,none⟩) 1 1]:=rd_fts10 (l:=[⟨3,0,0⟩]) (by rw [hWA1];exact heap_alloc_new wc _) rfl (by rw [hWA1];unfold lt_;simp) (by decide)
 have KA1:=Lib.hid (alike10_any AF1 (some ⟨wc.heap.size,0,none⟩) 1 cf1 1 1 [⟨3,0,0⟩] [⟨3,0,0⟩] WA1 (RF1.out _ (bel_in (bel_in BX2.out BX3.out) ba1)) ra1)
 have BY1:=Lib.hid ba1
 clear ba1 ra1
 go_wp2_with fail
 rw [←hWA1]
 clear hWA1
 refine KA1.out.mono ?_
 rintro e wd ⟨he,hb⟩
 obtain rfl:e=.returned (.bool true):=he.trans (by simp)
 have BZ1:=Lib.hid (bel_in BY1.out hb)
 clear he hb KA1
 have BV2:=Lib.hid (bel_in BX3.out BZ1.out)
 obtain ⟨WA2,hWA2⟩:∃W,W=wd.alloc (.cells #[.int .i64 2,.int .i64 1,.int .i64 2] 75):=⟨_,rfl⟩
 have ba2:Below wd.heap.size wd WA2:=by rw [hWA2];exact (Below.refl _ wd).alloc (Nat.le_refl _) _
 have ra2:rdFts WA2 (lt_ WA2.heap.size) [⟨2,1,2⟩] [.slice (some ⟨wd.heap.size,0,none⟩) 1 1]:=rd_fts10 (l:=[⟨2,1,2⟩]) (by rw [hWA2];exact heap_alloc_new wd _) rfl (by rw [hWA2];unfold lt_;simp) (by decide)
 have KA2:=Lib.hid (alike10_any AF2 (some ⟨wd.heap.size,0,none⟩) 1 cf2 1 1 [⟨2,1,2⟩] [⟨2,1,2⟩] WA2 (RF2.out _ (bel_in BV2.out ba2)) ra2)
 have BY2:=Lib.hid ba2
 clear ba2 ra2
 go_wp2_with fail
 rw [←hWA2]
 clear hWA2
 refine KA2.out.mono ?_
 rintro e we ⟨he,hb⟩
 obtain rfl:e=.returned (.bool true):=he.trans (by simp)
 have BZ2:=Lib.hid (bel_in BY2.out hb)
 clear he hb KA2
 have BV3:=Lib.hid (bel_in BZ1.out BZ2.out)
 obtain ⟨WM,hWM⟩:∃W,W=we.alloc (.cells #[.int .i64 0,.int .i64 2] 3):=⟨_,rfl⟩
 have bm:Below we.heap.size we WM:=by rw [hWM];exact (Below.refl _ we).alloc (Nat.le_refl _) _
 have rm:rdInts WM (lt_ WM.heap.size) [0,2] [.slice (some ⟨we.heap.size,0,none⟩) 2 2]:=rd_ints9 (l:=[0,2]) (by rw [hWM];exact heap_alloc_new we _) rfl (by rw [hWM];unfold lt_;simp) (by decide)
 have BM:=Lib.hid (show Below w9.heap.size w9 WM from bel_in BQ.out (bel_in BW3.out (bel_in BV3.out bm)))
 have KM:=Lib.hid (vmeet_any b ex10 [] none 0 [] none 0 [] false (some ⟨we.heap.size,0,none⟩) 2 2 [0,2] WM (HU.out _ BM.out) rm (rdRow_nil _ _) (rdRow_nil _ _) (fun a ha=>absurd ha List.not_mem_nil) (fun a ha=>absurd ha List.not_mem_nil) (HE9.out _ BM.out) (by decide) (by rw [ex10_flt [] [] [0,2] [] (by kernel_rfl)];decide))
 rw [show ((rqB [] []&&setB ex10.length [0,2])&&(fltS ex10 (heldU ex10 []) [] [] [0,2]).isEmpty)=true by kernel_rfl] at KM
 have BY:=Lib.hid bm
 clear bm rm
 go_wp2_with fail
 rw [←hWM]
 clear hWM
 refine KM.out.mono ?_
 rintro e wf ⟨rfl,hb⟩
 have BV4:=Lib.hid (bel_in BV3.out (bel_in BY.out hb))
 clear hb KM
 obtain ⟨WA3,hWA3⟩:∃W,W=wf.alloc (.cells #[.int .i64 5,.int .i64 0,.int .i64 0,.int .i64 6,.int .i64 0,.int .i64 2] 75):=⟨_,rfl⟩
 have ba3:Below wf.heap.size wf WA3:=by rw [hWA3];exact (Below.refl _ wf).alloc (Nat.le_refl _) _
 have ra3:rdFts WA3 (lt_ WA3.heap.size) [⟨5,0,0⟩,⟨6,0,2⟩] [.slice (some ⟨wf.heap.size,0,none⟩) 2 2]:=rd_fts10 (l:=[⟨5,0,0⟩,⟨6,0,2⟩]) (by rw [hWA3];exact heap_alloc_new wf _) rfl (by rw [hWA3];unfold lt_;simp) (by decide)
 have KA3:=Lib.hid (alike10_any AF3 (some ⟨wf.heap.size,0,none⟩) 2 cf3 2 2 [⟨5,0,0⟩,⟨6,0,2⟩] [⟨5,0,0⟩,⟨6,0,2⟩] WA3 (RF3.out _ (bel_in BV4.out ba3)) ra3)
 have BY3:=Lib.hid ba3
 clear ba3 ra3
 go_wp2_with fail
 rw [←hWA3]
 clear hWA3
 refine KA3.out.mono ?_
 rintro e wg ⟨he,hb⟩
 obtain rfl:e=.returned (.bool true):=he.trans (by simp)
 have BZ3:=Lib.hid (bel_in BY3.out hb)
 clear he hb KA3
 have FIN:=Lib.hid (show Below w.heap.size w wg from bel_in B9.out (bel_in BQ.out (bel_in BW3.out (bel_in BV4.out BZ3.out))))
 go_wp2
 go_ret
 exact ⟨rfl,FIN.out⟩
end Go.Proofs.YthchfkhpmgkghaaGreatDoor
