import Derived.Test.YtaiihnniblibaaaGreatDoorG14
set_option maxHeartbeats 16000000
set_option maxRecDepth 100000
set_option linter.unusedVariables false
open Go.Proofs.Tryz Go.ChangeShapes Go.WideShapes Go.ChangeAt Go.RowKit
open Go.Lib renaming hid→QA
open Go.RowKit.Below renaming refl→QF
open _root_.Nat renaming le_refl→QH,lt_succ_self→JW
open _root_.List renaming setIfInBounds_toArray→VG,set_cons_succ→VF,set_cons_zero→VE
open Go.Value renaming string→σ,int→ι,slice→ς,pointer→π,bool→τ,agg→ξ
open Go.IntKind renaming i64→κ
open Go.Obj renaming cells→θ
open Go.Ending renaming returned→ρ
namespace Go.Proofs.YtaiihnniblibaaaGreatDoor
namespace QB
open Tree ZR Mem
section
variable {P R B0 g g':Nat}{w w' W W':World}{v:Value}{f:F}{n:Nd}
theorem Sj(h:Fs w (Mx B0 g g' w.heap.size) v f)(hb:QP P R w w')(hP:P<B0)(hR:R<B0:=by omega):Fs w' (Mx B0 g g' w'.heap.size) v f :=
 (h.keep fun b hb'=>hb.block b hb'.2.1 (by have:=hb'.1;omega) (by have:=hb'.1;omega)).more fun b hb'=>⟨hb'.1,Nat.lt_of_lt_of_le hb'.2.1 hb.size,hb'.2.2⟩
def Pz{P R:Nat}(g g':Nat)(hP:P<R+1)(n:Nd):Cd (QP P R):=⟨UF (R+1) g g' n,fun v W W' h ⟨A,C,e,hf⟩=>⟨A,C,e,Sj hf h hP (JW _)⟩⟩
def CA{P R:Nat}(g g':Nat)(hP:P<R+1)(c:F):Cd (QP P R):=⟨Yg (R+1) g g' c,fun v W W' h ⟨A,C,e,hf⟩=>⟨A,C,e,Sj hf h hP (JW _)⟩⟩
def Vm(R g g':Nat)(n:Nd)(W:World):Prop:=∃A C,Z1 W R 24 (ι κ n.k) (σ n.x) (σ n.y) (ς A n.c.len C)∧Fs W (Mx (R+1) g g' W.heap.size) (ς A n.c.len C) n.c
theorem Vm.later(hP:P<R+1)(W W':World)(hb:Below W.heap.size W W')(h:Vm R g g' n W):Vm R g g' n W':=by
 obtain⟨A,C,h1,h2⟩:=h;exact⟨A,C,h1.later hb,Qm h2 hb hP⟩
theorem X0{k:Int}{x y:ByteArray}{c:F}{A:Option Addr}{m C:Nat}{a b c0 d0:Value}(hx:Z1 W R 24 a b c0 d0)(hm:m=c.len)(hf:Fs W (Mx (R+1) g g' W.heap.size) (ς A m C) c) :
  Vm R g g' ⟨k,x,y,c⟩ ((((W.setCell ⟨R,0,none⟩ (ι κ k)).setCell ⟨R,1,none⟩ (σ x)).setCell ⟨R,2,none⟩ (σ y)).setCell ⟨R,3,none⟩ (ς A m C)):=by
 subst hm;exact⟨A,C,hx.ZT _ _ _ _,Vo hf (.inr (.inr (JW _))) _ _ _ _⟩
theorem Ym{z d:Nat}{Rr:Rd Nd}{l:List Tk}(hR:Rr=.ok n l)(hf:Vm w.heap.size g g' n W)(hps:PS W P z l d)(hb:ZM P w W) :
  ∃A C,W.heap[w.heap.size]?=some (θ #[ι κ n.k,σ n.x,σ n.y,ς A n.c.len C] 24 (0,0))∧Qn NV w P z d Rr (ρ (ξ #[ι κ n.k,σ n.x,σ n.y,ς A n.c.len C])) W:=by
 obtain⟨A,C,h1,h2⟩:=hf;obtain⟨k,x,y,c⟩:=n;exact⟨A,C,h1,Ad hR rfl (K9 h2) (Nat.le_succ _) (QH _) hps hb⟩
end
theorem oK:Jd 104:=by intro args w;simp[go_sem]
theorem Qnn:Jd 114:=by intro args w;simp[go_sem]
theorem Xf(P z N:Nat)(st:Nat→List Tk→Rd Nd)(hst:Xj 104 P z N st)(hdec:JE st)(l:List Tk)(d:Nat)(w:World)(h:PS w P z l d)(hl:l.length≤N)(hd:d≤300) :
  Calls prog 95 #[π (some ⟨P,0,none⟩)] w (Qn NV w P z d (Zu z st d l)):=by
 have hlt:=h.lt;have HST:=QA (XI.start h);have Tg:Hid (∀W,PS W P z l d→Calls prog 90 #[π (some ⟨P,0,none⟩),.func (.func 104) #[π (some ⟨P,0,none⟩)] #[]] W (Qn FV W P z d (Jy z st d l))) :=
  fun W hW=>U4 P z N _ st hdec l d W hW (J0 W oK hst) hl hd
 have hsp:Zu z st d l=Zu z st d l:=rfl;conv at hsp=>rhs;unfold Zu
 have Sw:P<w.heap.size+1:=by omega
 clear h hst hdec;cases hr:Jy z st d l with
 |bad p er=>rw[hr,Rd.QG]at hsp;have QL:=QA hsp;have LU:=QA hr;clear hsp hr;go_enter func95,ntmps95;go_wp2_with fail;refine c₁ (Qh (Tg.out _ HST.out.ps) LU.out) fun w1 QD=>?_;have HE:=QA (HST.out.QS.trans QD);clear QD;go_wp2;exact⟨rfl,Qc QL.out HE.out⟩
 |ok c l2 =>
  rw[hr,Rd.bind_ok]at hsp;have QL:=QA hsp;have LU:=QA hr;clear hsp hr;go_enter func95,ntmps95;go_wp2_with fail;refine(Qf (Tg.out _ HST.out.ps) LU.out).mono ?_;rintro e wn ⟨v,rfl,hv,hps,QD⟩;obtain⟨Ac,Cc,rfl,hf,hst⟩:=cZ HST.out hv hps QD;replace HST:=QA hst;generalize hm:F.len c=mc at hf⊢;have zG:=QA hm;have G':=QA hf;clear hv hps QD hst hf hm;go_wp2_with fail;refine c₁ (Qu 17 ⟨#[]⟩ _ _ _ _) fun w2 hb=>?_;replace HST:=tQu HST hb;replace G':=QA (SU G'.out hb);clear hb;obtain⟨⟨r0,r1,r2,r3,y0,y1,y2,y3⟩,g0,g1,g2,g3⟩:=HST.out.VD;try unfold e0
  go_wp2;have hfin:=HST.out.ret QL.out zG.out.symm G'.out;refine bodyPost_ret (results_cell_row rfl _ _ w.heap.size 24 _ (0,0) _ rfl hfin.1 underlying24 rfl Q8) rfl ?_;exact hfin.2
theorem rY(P z:Nat)(k:Int)(l:List Tk)(hne:l≠[])(d:Nat)(w:World)(h:PS w P z l d)(hd:d≤300) :
  Calls prog 117 #[π (some ⟨P,0,none⟩),ι κ k] w (Qn NV w P z d (G2 z k d l)):=by
 have hlt:=h.lt;have HST:=QA (XI.start h);have JR:Hid (∀W,PS W P z l d→Calls prog 66 #[π (some ⟨P,0,none⟩),τ true] W (Qn TV W P z d (J' z true d l))) :=
  fun W hW=>Zr true P z l d (fun _=>hne) (by omega) W hW
 have hsp:G2 z k d l=G2 z k d l:=rfl;conv at hsp=>rhs;unfold G2
 have Sw:P<w.heap.size+1:=by omega
 clear h hne;cases hr:J' z true d l with
 |bad p er=>rw[hr,Rd.QG]at hsp;rw[hr]at JR;have QL:=QA hsp;clear hsp hr;go_enter func117,ntmps117;go_wp2_with fail;refine c₁ (Qh (JR.out _ HST.out.ps) rfl) fun w1 QD=>?_;have HE:=QA (HST.out.QS.trans QD);clear QD;go_wp2;exact⟨rfl,Qc QL.out HE.out⟩
 |ok t l2 =>
  rw[hr,Rd.bind_ok]at hsp;rw[hr]at JR;have QL:=QA hsp;clear hsp hr;go_enter func117,ntmps117;go_wp2_with fail;refine(Qf (JR.out _ HST.out.ps) rfl).mono ?_;rintro e w1 ⟨v,rfl,rfl,hps,QD⟩;replace HST:=tRe HST QD hps;clear hps QD;unfold VK;go_wp2_with fail;refine c₁ (Qu k ⟨#[]⟩ _ _ _ _) fun w2 hb=>?_;replace HST:=tQu HST hb;clear hb;obtain⟨⟨r0,r1,r2,r3,y0,y1,y2,y3⟩,g0,g1,g2,g3⟩:=HST.out.VD;try unfold e0
  go_wp2;have hfin:=HST.out.ret QL.out rfl Ju;refine bodyPost_ret (results_cell_row rfl _ _ w.heap.size 24 _ (0,0) _ rfl hfin.1 underlying24 rfl Q8) rfl ?_;exact hfin.2
theorem Qu6(P z N:Nat)(st:Nat→List Tk→Rd Nd)(hst:Xj 104 P z N st)(hdec:JE st)(l:List Tk)(d:Nat)(w:World)(h:PS w P z l d)(hl:l.length≤N)(hd:d≤300) :
  Calls prog 115 #[π (some ⟨P,0,none⟩)] w (Qn NV w P z d (Tb z st d l)):=by
 have hlt:=h.lt;have HST:=QA (XJ.start h);have HU:Hid ((⟨#[102,111,114]⟩:ByteArray).toList=[102,111,114]):=by show _=_;rw[ByteArray.toList_eq]
 have XY:Hid ((⟨#[123]⟩:ByteArray).toList=[123]):=by show _=_;rw[ByteArray.toList_eq]
 have hsp:Tb z st d l=Tb z st d l:=rfl;conv at hsp=>rhs;unfold Tb
 have QO:P<w.heap.size+1:=by omega
 have YJ:w.heap.size≠P:=by omega
 obtain⟨bb,hbb⟩:=Mem.ZB (QQ (QB.hd z l) [102,111,114]);rw[hbb]at hsp;have GU:=QA hbb;have JR:Hid (∀W,PS W P z l d→Calls prog 66 #[π (some ⟨P,0,none⟩),τ bb] W (Qn TV W P z d (J' z bb d l))) :=
  fun W hW=>Zr _ P z l d (fun e=>Zh (by decide) (hbb.trans e)) (by omega) W hW
 have KF:bb=true→l≠[]:=fun e=>Zh (by decide) (hbb.trans e)
 have HX:Hid (∀W l',PS W P z l' d→Calls prog 71 #[π (some ⟨P,0,none⟩)] W (Qn NV W P z d (XH z d l'))):=fun W l' hW=>NP P z (l'.length+1) W d l' (JW _) hd hW
 have YY:Hid (∀W l',PS W P z l' d→l'.length≤N→Calls prog 95 #[π (some ⟨P,0,none⟩)] W (Qn NV W P z d (Zu z st d l'))):=fun W l' hW hl'=>Xf P z N st hst hdec l' d W hW hl' hd
 clear h hbb hst hdec;have EC:=QA KF;have JJ:=QA hsp;clear KF hsp;go_enter func115,ntmps115;go_wp2_with fail;refine c₁ (Zq HST.out.ps HU.out GU.out) fun w1 hb=>?_;replace HST:=QY HST hb;clear hb;go_wp2_with fail;cases hr:J' z bb d l with
 |bad p er=>have KF:=EC.out;have hsp:=JJ.out;rw[hr,Rd.QG]at hsp;rw[hr]at JR;have QL:=QA hsp;clear hsp hr KF;refine c₁ (Qh (JR.out _ HST.out.ps) rfl) fun w2 QD=>?_;have HE:=QA (HST.out.QS.trans QD);clear QD;go_wp2;exact⟨rfl,Qc QL.out HE.out⟩
 |ok t l1 =>
  have KF:=EC.out;have hsp:=JJ.out;have ES:l1.length<l.length:=X6 KF _ _ hr;rw[hr,Rd.bind_ok]at hsp;rw[hr]at JR;clear hr KF;have KP:Hid (∀W,PS W P z l d→Calls prog 66 #[π (some ⟨P,0,none⟩),τ bb] W fun e w'=>∃v,e=ρ v∧TV W w' v t∧PS w' P z l1 d∧ZM P W w'):=fun W hW=>Qf (JR.out W hW) rfl
  clear JR;have VW:=QA hsp;clear hsp;refine(KP.out _ HST.out.ps).mono ?_;rintro e w2 ⟨v,rfl,rfl,hps,QD⟩;replace HST:=hRe HST QD hps;clear hps QD;unfold VK;go_wp2_with fail;refine c₁ (Xu _) fun wp hb=>?_;replace HST:=QY HST hb;clear hb;unfold e0;have Ds:=HST.out.size;have QM:=QA (Qv wp 24 (ι κ 33) (σ ⟨#[]⟩) (σ ⟨#[]⟩) (ς none 0 0));have hb:=(QF (wp).heap.size (wp)).alloc (QH _) (θ #[ι κ 33,σ ⟨#[]⟩,σ ⟨#[]⟩,ς none 0 0] 24);replace HST:=QY HST hb;clear hb;have hg3:=QM.out.lt;have QT:wp.heap.size≠P:=by omega
  go_wp2_with fail;cases he:QQ (QB.hd z l1) [123]with
  |true =>
   have hsp:=VW.out;rw[he,if_pos rfl,Rd.bind_ok]at hsp;have HE:=QA he;clear he;have ZO:=QA hsp;clear hsp;cases hb:Zu z st d l1 with
   |bad p er =>
    have hsp:=ZO.out;rw[hb,Rd.QG]at hsp;have QL:=QA hsp;have HB:=QA hb;clear hsp hb;refine c₁ (Zq HST.out.ps XY.out HE.out) fun wd hb=>?_;replace HST:=QY HST hb;replace QM:=JB QM hb;clear hb;go_wp2;refine Q3 [2,5] (GN 2 5 P z d l1 l1 (Vm w.heap.size wp.heap.size wp.heap.size Jg) (JZ w.heap.size)) P (w.heap.size) [Cd.is (ξ #[ι κ 33,σ ⟨#[]⟩,σ ⟨#[]⟩,ς none 0 0]),Cd.is (π (some ⟨P,0,none⟩)),JV,JV,JV,JV] (GN.keep (Vm.later QO) JZ.later) ?start ?steps ?behind
    case start=>intro x;exact⟨fun h=>(by cases h),fun _=>HST.out.bx,fun h=>(by cases h),fun _=>HST.out.ps.drewN 1⟩
    case steps =>
     intro xv W hW;refine⟨?s0,?s1,?s2,?s3,?s4,?s5,trivial⟩;all_goals intro dn hdi QE hcl QC hg K hK
     all_goals(try simp only[Act.put,VG,VF,VE]at hK)
     case s0=>clear QC QE;obtain⟨q0,q1,q2,q3⟩:=(QM.out.VV hW QT (by omega)).cells;go_simp;exact hK.out _ _ (QF _ _) rfl
     case s1=>clear QC QE;go_simp;exact hK.out _ _ (QF _ _) rfl
     case s2=>have hx1:xv 1=π (some ⟨P,0,none⟩):=QC 1 (QE 1);clear QC QE;rw[hx1]at hK⊢;go_simp;refine c₁ (Qh (YY.out W _ (hg.2.2.2 hdi) (by omega)) HB.out) fun W' QD=>?_;exact⟨rfl,Qc QL.out (QP.back HST.out.QS (hW.trans (QP.QS QD)) (QH _))⟩
     case s3=>have hx0:xv 0=ξ #[ι κ 33,σ ⟨#[]⟩,σ ⟨#[]⟩,ς none 0 0]:=QC 0 (QE 0);have hno:False:=QC 2 (QE 2);exact hno.elim
     case s4=>have hno:False:=QC 3 (QE 3);exact hno.elim
     case s5=>have hno:False:=QC 4 (QE 4);exact hno.elim
    case behind=>intro dn xv W hW hall hx hg;exact(hx 2:False).elim
   |ok b l4 =>
    have hsp:=ZO.out;obtain⟨bk,bx,VU,bc⟩:=b;rw[hb,Rd.bind_ok]at hsp;have QL:=QA hsp;have HB:=QA hb;clear hsp hb;refine c₁ (Zq HST.out.ps XY.out HE.out) fun wd hb=>?_;replace HST:=QY HST hb;replace QM:=JB QM hb;clear hb;go_wp2;refine Q3 [2,5] (GN 2 5 P z d l1 l4 (Vm w.heap.size wp.heap.size wp.heap.size (QB.node 19 e0 (Qo ⟨33,⟨#[]⟩,⟨#[]⟩,.nil⟩ (one ⟨bk,bx,VU,bc⟩)))) (JZ w.heap.size)) P (w.heap.size) [Cd.is (ξ #[ι κ 33,σ ⟨#[]⟩,σ ⟨#[]⟩,ς none 0 0]),Cd.is (π (some ⟨P,0,none⟩)),Pz wp.heap.size wp.heap.size QO ⟨bk,bx,VU,bc⟩,CA wp.heap.size wp.heap.size QO (Qo ⟨33,⟨#[]⟩,⟨#[]⟩,.nil⟩ (one ⟨bk,bx,VU,bc⟩)),Pz wp.heap.size wp.heap.size QO (QB.node 19 e0 (Qo ⟨33,⟨#[]⟩,⟨#[]⟩,.nil⟩ (one ⟨bk,bx,VU,bc⟩))),Cd.any] (GN.keep (Vm.later QO) JZ.later) ?start ?steps ?behind
    case start=>intro x;exact⟨fun h=>(by cases h),fun _=>HST.out.bx,fun h=>(by cases h),fun _=>HST.out.ps.drewN 1⟩
    case steps =>
     intro xv W hW;refine⟨?s0,?s1,?s2,?s3,?s4,?s5,trivial⟩;all_goals intro dn hdi QE hcl QC hg K hK
     all_goals(try simp only[Act.put,VG,VF,VE]at hK)
     case s0=>clear QC QE;obtain⟨q0,q1,q2,q3⟩:=(QM.out.VV hW QT (by omega)).cells;go_simp;exact hK.out _ _ (QF _ _) rfl
     case s1=>clear QC QE;go_simp;exact hK.out _ _ (QF _ _) rfl
     case s2=>have hx1:xv 1=π (some ⟨P,0,none⟩):=QC 1 (QE 1);clear QC QE;rw[hx1]at hK⊢;go_simp;refine(Qf (YY.out W _ (hg.2.2.2 hdi) (by omega)) HB.out).mono ?_;rintro e W' ⟨v,rfl,hv,hps,QD⟩;exact hK.out _ _ ⟨QP.QS QD,GN.call (by decide) hg (Q4 hcl hdi (by kernel_rfl)) (fun h=>h.QS QD YJ) hps⟩ (Jv hv (by have hh:=HST.out.size;have hw:=hW.size;have hq0:=QM.out.lt;omega) (by have hh:=HST.out.size;have hw:=hW.size;have hq0:=QM.out.lt;omega) (by have hh:=HST.out.size;have hw:=hW.size;have hq0:=QM.out.lt;omega))
     case s3=>have hx0:xv 0=ξ #[ι κ 33,σ ⟨#[]⟩,σ ⟨#[]⟩,ς none 0 0]:=QC 0 (QE 0);obtain⟨A2,C2,hx2,hf2⟩:UF (w.heap.size+1) wp.heap.size wp.heap.size ⟨bk,bx,VU,bc⟩ (xv 2) W:=QC 2 (QE 2);clear QC QE;rw[hx2]at hK⊢;rw[hx0]at hK⊢;go_simp;exact hK.out _ _ ((QF _ _).alloc (QH _) _) (NS W (w.heap.size+1) wp.heap.size wp.heap.size P (by have hh:=HST.out.size;have hw:=hW.size;have hq0:=QM.out.lt;omega) (by have hh:=HST.out.size;have hw:=hW.size;have hq0:=QM.out.lt;omega) (by have hh:=HST.out.size;have hw:=hW.size;have hq0:=QM.out.lt;omega) QO 33 ⟨#[]⟩ ⟨#[]⟩ .nil _ Es bk bx VU bc _ hf2)
     case s4=>obtain⟨A3,C3,hx3,hf3⟩:Yg (w.heap.size+1) wp.heap.size wp.heap.size (Qo ⟨33,⟨#[]⟩,⟨#[]⟩,.nil⟩ (one ⟨bk,bx,VU,bc⟩)) (xv 3) W:=QC 3 (QE 3);clear QC QE;rw[hx3]at hK⊢;go_simp;refine c₁ (Qu _ _ _ _ _ W) fun W' hb=>?_;exact hK.out _ _ hb ⟨A3,C3,rfl,Qm hf3 hb QO⟩
     case s5=>obtain⟨A4,C4,ZP,LY⟩:UF (w.heap.size+1) wp.heap.size wp.heap.size (QB.node 19 e0 (Qo ⟨33,⟨#[]⟩,⟨#[]⟩,.nil⟩ (one ⟨bk,bx,VU,bc⟩))) (xv 4) W:=QC 4 (QE 4);rw[ZP]at hK⊢;have hds:dn 2=true:=QE 2;have QZ:=hg.2.1 hdi;obtain⟨b0,b1,b2,b3,VO⟩:=id QZ;obtain⟨g0,g1,g2,g3⟩:=VO.VD;obtain⟨y0,y1,y2,y3⟩:=VO.cells;simp only[QB.node]at LY hK⊢;go_simp;exact hK.out undef _ ⟨QP.ZT _ _ _ _ _,GN.store (by decide) (hds) (X0 VO rfl LY) (Va (hg.2.2.1 hds) (by omega) _ _ _ _)⟩ trivial
    case behind=>intro dn xv W hW hall hx hg;have hF:=hg.1 (hall 5);have hps:=hg.2.2.1 (hall 2);have ZW:=QP.back HST.out.QS hW (QH _);obtain⟨A,C,QZ,hpost⟩:=Ym (w:=w) QL.out hF hps ZW;have EE:=QA hpost;have JO:=QA QZ;clear hx hF hps ZW hpost hg hall hW QZ;go_wp2;refine bodyPost_ret (results_cell_row rfl _ _ w.heap.size 24 _ (0,0) _ rfl JO.out underlying24 rfl Q8) rfl ?_;exact EE.out
  |false =>
   have hsp:=VW.out;rw[he,if_neg (by decide)]at hsp;have HE:=QA he;clear he;have ZV:=QA hsp;clear hsp;cases hx:XH z d l1 with
   |bad p er=>have hsp:=ZV.out;rw[hx,Rd.QG]at hsp;have QL:=QA hsp;have JX:=QA hx;clear hsp hx;refine c₁ (Zq HST.out.ps XY.out HE.out) fun w4 hb=>?_;replace HST:=QY HST hb;replace QM:=JB QM hb;clear hb;go_wp2_with fail;refine c₁ (Qh (HX.out _ _ HST.out.ps) JX.out) fun w5 QD=>?_;have HE:=QA (HST.out.QS.trans QD);clear QD;go_wp2;exact⟨rfl,Qc QL.out HE.out⟩
   |ok n l3 =>
    have hsp:=ZV.out;obtain⟨nk,nx,ny,nc⟩:=n;have SR:l3.length<l1.length:=Kb z _ _ _ _ hx;rw[hx,Rd.bind_ok]at hsp;have JX:=QA hx;clear hx;have VH:=QA hsp;clear hsp;refine c₁ (Zq HST.out.ps XY.out HE.out) fun w4 hb=>?_;replace HST:=QY HST hb;replace QM:=JB QM hb;clear hb;have LX:=HST.out.size
    skip
    go_wp2_with fail;cases hb:Zu z st d l3 with
    |bad p er =>
     have hsp:=VH.out;rw[hb,Rd.QG]at hsp;have QL:=QA hsp;have HB:=QA hb;clear hsp hb;refine(Qf (HX.out _ _ HST.out.ps) JX.out).mono ?_;rintro e wx ⟨v,rfl,hv,hps,QD⟩;obtain⟨An,Cn,rfl,hf⟩:=Jv (B0:=w.heap.size+1) (g:=wp.heap.size) (g':=wp.heap.size) hv HST.out.size (by have Hk:=QM.out.lt;omega) (by have Hk:=QM.out.lt;omega);replace HST:=hRe HST QD hps;replace QM:=JY QM QD QT;simp only at hf⊢;generalize hm:nc.len=mn at hf⊢;have Ri:=QA hm;have ZX:=QA hf;clear hv hps QD hf hm LX;obtain⟨p0,p1,p2,p3⟩:=QM.out.VD;obtain⟨c0,c1,c2,c3⟩:=QM.out.cells;have hw3:=QM.out.lt;replace HST:=QA (HST.out.KB (y:=wp.heap.size) (by omega) (ι κ nk) (σ nx) (σ ny) (ς An mn Cn));replace ZX:=QA (Vo ZX.out (x:=wp.heap.size) (by omega) (ι κ nk) (σ nx) (σ ny) (ς An mn Cn));replace QM:=QA (QM.out.ZT (ι κ nk) (σ nx) (σ ny) (ς An mn Cn));have PR:=QM.out.lt;go_wp2;clear p0 p1 p2 p3 c0 c1 c2 c3;generalize((((wx.setCell ⟨wp.heap.size,0,none⟩ (ι κ nk)).setCell ⟨wp.heap.size,1,none⟩ (σ nx)).setCell ⟨wp.heap.size,2,none⟩ (σ ny)).setCell ⟨wp.heap.size,3,none⟩ (ς An mn Cn))=wd at *;refine Q3 [2,5] (GN 2 5 P z d l3 l3 (Vm w.heap.size wp.heap.size wp.heap.size Jg) (JZ w.heap.size)) P (w.heap.size) [Cd.is (ξ #[ι κ nk,σ nx,σ ny,ς An mn Cn]),Cd.is (π (some ⟨P,0,none⟩)),JV,JV,JV,JV] (GN.keep (Vm.later QO) JZ.later) ?start ?steps ?behind
     case start=>intro x;exact⟨fun h=>(by cases h),fun _=>HST.out.bx,fun h=>(by cases h),fun _=>HST.out.ps.drewN 1⟩
     case steps =>
      intro xv W hW;refine⟨?s0,?s1,?s2,?s3,?s4,?s5,trivial⟩;all_goals intro dn hdi QE hcl QC hg K hK
      all_goals(try simp only[Act.put,VG,VF,VE]at hK)
      case s0=>clear QC QE;obtain⟨q0,q1,q2,q3⟩:=(QM.out.VV hW QT (by omega)).cells;go_simp;exact hK.out _ _ (QF _ _) rfl
      case s1=>clear QC QE;go_simp;exact hK.out _ _ (QF _ _) rfl
      case s2=>have hx1:xv 1=π (some ⟨P,0,none⟩):=QC 1 (QE 1);clear QC QE;rw[hx1]at hK⊢;go_simp;refine c₁ (Qh (YY.out W _ (hg.2.2.2 hdi) (by omega)) HB.out) fun W' QD=>?_;exact⟨rfl,Qc QL.out (QP.back HST.out.QS (hW.trans (QP.QS QD)) (QH _))⟩
      case s3=>have hx0:xv 0=ξ #[ι κ nk,σ nx,σ ny,ς An mn Cn]:=QC 0 (QE 0);have hno:False:=QC 2 (QE 2);exact hno.elim
      case s4=>have hno:False:=QC 3 (QE 3);exact hno.elim
      case s5=>have hno:False:=QC 4 (QE 4);exact hno.elim
     case behind=>intro dn xv W hW hall hx hg;exact(hx 2:False).elim
    |ok b l4 =>
     have hsp:=VH.out;obtain⟨bk,bx,VU,bc⟩:=b;rw[hb,Rd.bind_ok]at hsp;have QL:=QA hsp;have HB:=QA hb;clear hsp hb;refine(Qf (HX.out _ _ HST.out.ps) JX.out).mono ?_;rintro e wx ⟨v,rfl,hv,hps,QD⟩;obtain⟨An,Cn,rfl,hf⟩:=Jv (B0:=w.heap.size+1) (g:=wp.heap.size) (g':=wp.heap.size) hv HST.out.size (by have Hk:=QM.out.lt;omega) (by have Hk:=QM.out.lt;omega);replace HST:=hRe HST QD hps;replace QM:=JY QM QD QT;simp only at hf⊢;generalize hm:nc.len=mn at hf⊢;have Ri:=QA hm;have ZX:=QA hf;clear hv hps QD hf hm LX;obtain⟨p0,p1,p2,p3⟩:=QM.out.VD;obtain⟨c0,c1,c2,c3⟩:=QM.out.cells;have hw3:=QM.out.lt;replace HST:=QA (HST.out.KB (y:=wp.heap.size) (by omega) (ι κ nk) (σ nx) (σ ny) (ς An mn Cn));replace ZX:=QA (Vo ZX.out (x:=wp.heap.size) (by omega) (ι κ nk) (σ nx) (σ ny) (ς An mn Cn));replace QM:=QA (QM.out.ZT (ι κ nk) (σ nx) (σ ny) (ς An mn Cn));have PR:=QM.out.lt;go_wp2;clear p0 p1 p2 p3 c0 c1 c2 c3;generalize((((wx.setCell ⟨wp.heap.size,0,none⟩ (ι κ nk)).setCell ⟨wp.heap.size,1,none⟩ (σ nx)).setCell ⟨wp.heap.size,2,none⟩ (σ ny)).setCell ⟨wp.heap.size,3,none⟩ (ς An mn Cn))=wd at *;refine Q3 [2,5] (GN 2 5 P z d l3 l4 (Vm w.heap.size wp.heap.size wp.heap.size (QB.node 19 e0 (Qo ⟨nk,nx,ny,nc⟩ (one ⟨bk,bx,VU,bc⟩)))) (JZ w.heap.size)) P (w.heap.size) [Cd.is (ξ #[ι κ nk,σ nx,σ ny,ς An mn Cn]),Cd.is (π (some ⟨P,0,none⟩)),Pz wp.heap.size wp.heap.size QO ⟨bk,bx,VU,bc⟩,CA wp.heap.size wp.heap.size QO (Qo ⟨nk,nx,ny,nc⟩ (one ⟨bk,bx,VU,bc⟩)),Pz wp.heap.size wp.heap.size QO (QB.node 19 e0 (Qo ⟨nk,nx,ny,nc⟩ (one ⟨bk,bx,VU,bc⟩))),Cd.any] (GN.keep (Vm.later QO) JZ.later) ?start ?steps ?behind
     case start=>intro x;exact⟨fun h=>(by cases h),fun _=>HST.out.bx,fun h=>(by cases h),fun _=>HST.out.ps.drewN 1⟩
     case steps =>
      intro xv W hW;refine⟨?s0,?s1,?s2,?s3,?s4,?s5,trivial⟩;all_goals intro dn hdi QE hcl QC hg K hK
      all_goals(try simp only[Act.put,VG,VF,VE]at hK)
      case s0=>clear QC QE;obtain⟨q0,q1,q2,q3⟩:=(QM.out.VV hW QT (by omega)).cells;go_simp;exact hK.out _ _ (QF _ _) rfl
      case s1=>clear QC QE;go_simp;exact hK.out _ _ (QF _ _) rfl
      case s2=>have hx1:xv 1=π (some ⟨P,0,none⟩):=QC 1 (QE 1);clear QC QE;rw[hx1]at hK⊢;go_simp;refine(Qf (YY.out W _ (hg.2.2.2 hdi) (by omega)) HB.out).mono ?_;rintro e W' ⟨v,rfl,hv,hps,QD⟩;exact hK.out _ _ ⟨QP.QS QD,GN.call (by decide) hg (Q4 hcl hdi (by kernel_rfl)) (fun h=>h.QS QD YJ) hps⟩ (Jv hv (by have hh:=HST.out.size;have hw:=hW.size;have hq0:=QM.out.lt;omega) (by have hh:=HST.out.size;have hw:=hW.size;have hq0:=QM.out.lt;omega) (by have hh:=HST.out.size;have hw:=hW.size;have hq0:=QM.out.lt;omega))
      case s3=>have hx0:xv 0=ξ #[ι κ nk,σ nx,σ ny,ς An mn Cn]:=QC 0 (QE 0);obtain⟨A2,C2,hx2,hf2⟩:UF (w.heap.size+1) wp.heap.size wp.heap.size ⟨bk,bx,VU,bc⟩ (xv 2) W:=QC 2 (QE 2);clear QC QE;rw[hx2]at hK⊢;rw[hx0]at hK⊢;go_simp;exact hK.out _ _ ((QF _ _).alloc (QH _) _) (NS W (w.heap.size+1) wp.heap.size wp.heap.size P (by have hh:=HST.out.size;have hw:=hW.size;have hq0:=QM.out.lt;omega) (by have hh:=HST.out.size;have hw:=hW.size;have hq0:=QM.out.lt;omega) (by have hh:=HST.out.size;have hw:=hW.size;have hq0:=QM.out.lt;omega) QO nk nx ny nc _ (Sj ZX.out hW QO) bk bx VU bc _ hf2)
      case s4=>obtain⟨A3,C3,hx3,hf3⟩:Yg (w.heap.size+1) wp.heap.size wp.heap.size (Qo ⟨nk,nx,ny,nc⟩ (one ⟨bk,bx,VU,bc⟩)) (xv 3) W:=QC 3 (QE 3);clear QC QE;rw[hx3]at hK⊢;go_simp;refine c₁ (Qu _ _ _ _ _ W) fun W' hb=>?_;exact hK.out _ _ hb ⟨A3,C3,rfl,Qm hf3 hb QO⟩
      case s5=>obtain⟨A4,C4,ZP,LY⟩:UF (w.heap.size+1) wp.heap.size wp.heap.size (QB.node 19 e0 (Qo ⟨nk,nx,ny,nc⟩ (one ⟨bk,bx,VU,bc⟩))) (xv 4) W:=QC 4 (QE 4);rw[ZP]at hK⊢;have hds:dn 2=true:=QE 2;have QZ:=hg.2.1 hdi;obtain⟨b0,b1,b2,b3,VO⟩:=id QZ;obtain⟨g0,g1,g2,g3⟩:=VO.VD;obtain⟨y0,y1,y2,y3⟩:=VO.cells;simp only[QB.node]at LY hK⊢;go_simp;exact hK.out undef _ ⟨QP.ZT _ _ _ _ _,GN.store (by decide) (hds) (X0 VO rfl LY) (Va (hg.2.2.1 hds) (by omega) _ _ _ _)⟩ trivial
     case behind=>intro dn xv W hW hall hx hg;have hF:=hg.1 (hall 5);have hps:=hg.2.2.1 (hall 2);have ZW:=QP.back HST.out.QS hW (QH _);obtain⟨A,C,QZ,hpost⟩:=Ym (w:=w) QL.out hF hps ZW;have EE:=QA hpost;have JO:=QA QZ;clear hx hF hps ZW hpost hg hall hW QZ;go_wp2;refine bodyPost_ret (results_cell_row rfl _ _ w.heap.size 24 _ (0,0) _ rfl JO.out underlying24 rfl Q8) rfl ?_;exact EE.out
