import Derived.Test.YtaiihnniblibaaaGreatDoorG11
set_option maxHeartbeats 16000000
set_option maxRecDepth 100000
set_option linter.unusedVariables false
open Go.ChangeShapes Go.WideShapes Go.ChangeAt Go.RowKit
open Go.Lib renaming hid→QA
open Go.RowKit.Below renaming refl→QF
open _root_.Nat renaming le_refl→QH
open _root_.List renaming setIfInBounds_toArray→VG,set_cons_succ→VF,set_cons_zero→VE,length_cons→VX
open Go.Value renaming string→σ,int→ι,slice→ς,pointer→π,agg→ξ
open Go.IntKind renaming i64→κ
open Go.Obj renaming cells→θ
namespace Go.Proofs.YtaiihnniblibaaaGreatDoor
namespace QB
open Tree ZR Mem
theorem mf{z:Nat}{rd:List Tk→Rd Nd}(hit:∀l n r,rd l=.ok n r→r.length<l.length):∀(f:Nat)(l:List Tk)(c:F)(r:List Tk),args z rd f l=.ok c r→c.len+r.length≤l.length
 |0,l,c,r,h=>by cases h
 |f+1,l,c,r,h=>by
  unfold args at h;split at h
  ·simp only[Rd.ok.injEq]at h;rw[←h.1,h.2];simp[F.len]
  ·cases h1:rd l with
   |bad p e=>rw[h1]at h;cases h
   |ok n l1 =>
    rw[h1,Rd.bind_ok]at h;have a1:=hit l n l1 h1;cases h2:Uf z l1 with
    |bad p e=>rw[h2]at h;cases h
    |ok u l2 =>
     rw[h2,Rd.bind_ok]at h;have a2:l2.length≤l1.length:=by
      unfold Uf at h2;split at h2
      ·simp only[Rd.ok.injEq]at h2;rw[h2.2];exact QH _
      ·rw[Xk h2,List.length_tail];omega
     cases h3:args z rd f l2 with
     |bad p e=>rw[h3]at h;cases h
     |ok c2 l3=>rw[h3,Rd.bind_ok]at h;simp only[Rd.ok.injEq]at h;have a3:=mf hit f l2 c2 l3 h3;rw[←h.1,←h.2];simp only[Qo,F.len];omega
theorem Qnh{z d:Nat}{rd:Nat→List Tk→Rd Nd}(hd:JE rd){l r:List Tk}{c:F}(h:list z rd d l=.ok c r):c.len+r.length≤l.length:=by
 unfold list at h;cases h1:QB.want z [40] l with
 |bad p e=>rw[h1]at h;cases h
 |ok u l1 =>
  rw[h1,Rd.bind_ok]at h;have a1:=Xk h1;cases h2:args z (rd (d+1)) (l1.length+1) l1 with
  |bad p e=>rw[h2]at h;cases h
  |ok c2 l2 =>
   rw[h2,Rd.bind_ok]at h;have a2:=mf (fun l n r e=>hd _ l n r e) _ l1 c2 l2 h2;cases h3:QB.want z [41] l2 with
   |bad p e=>rw[h3]at h;cases h
   |ok u2 l3=>rw[h3,Rd.bind_ok]at h;simp only[Rd.ok.injEq]at h;have a3:=Xk h3;rw[←h.1,←h.2,a3,List.length_tail];rw[a1,List.length_tail]at a2;omega
theorem aq{z d:Nat}{rd:Nat→List Tk→Rd Nd}(hd:JE rd){l r:List Tk}{c:F}(h:list z rd d l=.ok c r):r.length<l.length:=by
 unfold list at h;cases h1:QB.want z [40] l with
 |bad p e=>rw[h1]at h;cases h
 |ok u l1 =>
  rw[h1,Rd.bind_ok]at h;have a1:l1.length<l.length:=by
   cases l with
   |nil=>simp[QB.want,QB.hd,QQ,e0]at h1
   |cons t r=>rw[Xk h1];simp
  exact(Lt.bind (kV (fun l=>fun n r e=>hd _ l n r e) _ a1) fun c r2 h2=>Lt.bind (J9 h2) fun _ r3 h3=>Lt.ok h3) c r h
theorem nN(w:World)(B0 g g' P:Nat)(hB:B0≤w.heap.size)(hg:g<w.heap.size)(hg':g'<w.heap.size)(hP:P<B0)(k:Int)(x y:ByteArray)(c:F)(s:Value)(hf:Fs w (Mx B0 g g' w.heap.size) s c) :
  jH B0 g g' ⟨k,x,y,c⟩ (ς (some ⟨w.heap.size,0,none⟩) 1 1) (w.alloc (θ #[ι κ k,σ x,σ y,s] 24)) :=
 ⟨w.heap.size,rfl,Af w B0 g g' [(⟨k,x,y,c⟩,s)] _ (by rfl) 1 rfl (by omega) hB hg hg' P hP (fun p hp=>by simp at hp;subst hp;exact hf)⟩
def XU(B0 g g':Nat)(n:Nd)(A:Option Addr)(C:Nat)(W:World):Prop:=Z1 W g 24 (ι κ n.k) (σ n.x) (σ n.y) (ς A n.c.len C)∧Fs W (Mx B0 g g' W.heap.size) (ς A n.c.len C) n.c
section
variable {P B0 g g':Nat}{n:Nd}{A:Option Addr}{C:Nat}{W W':World}
theorem XU.later(hP:P<B0)(W W':World)(hb:Below W.heap.size W W')(h:XU B0 g g' n A C W):XU B0 g g' n A C W':=⟨h.1.later hb,Qm h.2 hb hP⟩
theorem XU.QS(h:XU B0 g g' n A C W)(hb:ZM P W W')(hg:g≠P)(hP:P<B0):XU B0 g g' n A C W':=⟨h.1.QS hb hg,Vr h.2 hb hP⟩
theorem XU.drew(h:XU B0 g g' n A C W):XU B0 g g' n A C W.drew:=⟨h.1,h.2.drewN 1⟩
theorem aC{R:Nat}{v:Value}{f:F}(h:Fs W (Mx B0 g R W.heap.size) v f)(v0 v1 v2 v3:Value):Fs ((((W.setCell ⟨R,0,none⟩ v0).setCell ⟨R,1,none⟩ v1).setCell ⟨R,2,none⟩ v2).setCell ⟨R,3,none⟩ v3) (Mi B0 W.heap.size) v f :=
 (h.keep fun b hb=>(QP.ZT (P:=R) W v0 v1 v2 v3).block b hb.2.1 hb.2.2.2 hb.2.2.2).more fun b hb=>⟨hb.1,hb.2.1⟩
end
theorem XJ.region{w W W':World}{P z d R g:Nat}{l l':List Tk}(h:XJ w R W P z d l)(hW:QP P g W W')(hg:w.heap.size≤g)(hne:R≠g)(hps:PS W' P z l' d):XJ w R W' P z d l':=by
 obtain⟨a,b,c,d',hx⟩:=h.bx;have h1:=h.hlt;have h2:=h.hR;exact⟨QP.back h.QS hW hg,hps,⟨a,b,c,d',hx.VV hW (by omega) hne⟩,h.hR,h.hlt⟩
theorem Qnv(P z N:Nat)(ex:Nat→Nat→List Tk→Rd Nd)(hex:Xj 71 P z N (ex 1))(hdec:JE (ex 1))(f:Nat)(nk:Int)(nx ny:ByteArray)(nc:F)(A:Option Addr)(C:Nat)(l:List Tk)(d:Nat)(B0:Nat)(w:World)(h:PS w P z l d)
  (hf:Fs w (Mi B0 w.heap.size) (ς A nc.len C) nc) (QO:P<B0) (hB:B0≤w.heap.size) (hl:l.length≤N) (uK:l.length<f) (hd:d+1≤300) :
  Calls Tryz.prog 112 #[π (some ⟨P,0,none⟩),ξ #[ι κ nk,σ nx,σ ny,ς A nc.len C]] w (Qn (NB B0) w P z d (behind z ex d f ⟨nk,nx,ny,nc⟩ l)):=by
 have hlt:=h.lt;have hlen:=h.len;have hb0:Below w.heap.size w (w.alloc (θ #[ι κ nk,σ nx,σ ny,ς A nc.len C] 24)):=(QF _ _).alloc (QH _) _;have hb1:=J8 (w.alloc (θ #[ι κ nk,σ nx,σ ny,ς A nc.len C] 24));have hs:(w.alloc (θ #[ι κ nk,σ nx,σ ny,ς A nc.len C] 24)).heap.size=w.heap.size+1:=by simp
 have KY:Hid (XJ w (w.heap.size+1) ((w.alloc (θ #[ι κ nk,σ nx,σ ny,ς A nc.len C] 24)).alloc XO) P z d l) :=
  ⟨(ZM.of hb0 P).ZN hb1,(h.later hb0).later hb1,⟨_,_,_,_,by have:=Xm (w.alloc (θ #[ι κ nk,σ nx,σ ny,ς A nc.len C] 24));rwa[hs]at this⟩,by omega,hlt⟩
 have CR:Hid (K5 B0 w.heap.size (w.heap.size+1) ⟨nk,nx,ny,nc⟩ ((w.alloc (θ #[ι κ nk,σ nx,σ ny,ς A nc.len C] 24)).alloc XO)) :=
  ⟨A,C,(Qv w _ _ _ _ _).later hb1,Xv (Zc (Zc hf hb0 (QH _)) hb1 hb0.size) (QH _) (.inr (QH _)) (.inr (by omega)) (Nat.le_trans hb0.size hb1.size)⟩
 have BB:=QA hex;have EX:=QA hdec;have Nf:Hid ((⟨#[93]⟩:ByteArray).toList=[93]):=by show _=_;rw[ByteArray.toList_eq]
 have YC:w.heap.size≠P:=by omega
 clear h hf hb0 hb1 hs hex hdec;generalize hm0:nc.len=m0 at *;clear hm0;go_enter Tryz.func112,Tryz.ntmps112;go_wp2
 go_loopg [9] (l.length+1) (fun p s9 wr=>∃(kk:Int)(kx ky:ByteArray)(kc:F)(l':List Tk),l'.length<p∧l'.length≤l.length∧Hid (XJ w (w.heap.size+1) wr P z d l')∧Hid (K5 B0 w.heap.size (w.heap.size+1) ⟨kk,kx,ky,kc⟩ wr)∧Hid (∃f',l'.length<f'∧behind z ex d f ⟨nk,nx,ny,nc⟩ l=behind z ex d f' ⟨kk,kx,ky,kc⟩ l'))
 case atStart=>exact⟨nk,nx,ny,nc,l,by omega,QH _,KY,CR,f,uK,rfl⟩
 case round =>
  clear KY CR uK;obtain⟨kk,kx,ky,kc,l',hp,hl',HST,KZ,XE⟩:=hrel;obtain⟨f',hf',VA⟩:=XE.out;obtain⟨f',rfl⟩:∃f2,f'=f2+1:=⟨f'-1,by omega⟩;have hit:behind z ex d (f'+1) ⟨kk,kx,ky,kc⟩ l'=behind z ex d (f'+1) ⟨kk,kx,ky,kc⟩ l':=rfl;conv at hit=>rhs;unfold behind
  rw[hit]at VA;obtain⟨t,ht⟩:=Mem.ZB (QB.hd z l');rw[ht]at VA;obtain⟨tk,tx,tp,tf⟩:=t;have XW:=RH tk tx tp tf;have HN:=QA (Zn HST.out.ps ht);have Ht:=QA ht;clear hit ht XE;cases b0:(tx.toList==[40])with
  |true =>
   rw[if_pos (Vp b0)]at VA;have Tf:Hid (∀W,PS W P z l' d→Calls Tryz.prog 94 #[π (some ⟨P,0,none⟩),.func (.func 71) #[π (some ⟨P,0,none⟩)] #[]] W (Qn FV W P z d (list z (ex 1) d l'))) :=
    fun W hW=>xg P z N _ (ex 1) EX.out l' d W hW (J0 W xF BB.out) (by omega) hd
   cases hr:list z (ex 1) d l' with
   |bad p er =>
    rw[hr,Rd.QG]at VA;have Hr:=QA hr;have QL:=QA VA;clear hr VA;go_wp2_with fail;refine c₁ HN.out fun w1 hb=>?_;replace HST:=QY HST hb;replace KZ:=QA (KZ.out.later QO _ _ hb);clear hb HN;obtain⟨Ak,Ck,QZ,GV⟩:=KZ.out;have KD:Hid (XU B0 w.heap.size (w.heap.size+1) ⟨kk,kx,ky,kc⟩ Ak Ck _):=⟨QZ,GV⟩;obtain⟨mk,hmk⟩:=Mem.ZB (kc.len);have GS:=QA hmk;clear QZ GV hmk KZ;clear Ht;go_wp2;clear XW;refine Q3 [5,8] (GN 5 8 P z d l' l' (K5 B0 w.heap.size (w.heap.size+1) Jg) (XU B0 w.heap.size (w.heap.size+1) ⟨kk,kx,ky,kc⟩ Ak Ck)) P (w.heap.size) [Cd.is (ξ #[ι κ kk,σ kx,σ ky,ς Ak mk Ck]),lG B0 (w.heap.size+1) QO ⟨kk,kx,ky,kc⟩,Cd.is (π (some ⟨P,0,none⟩)),Cd.is (π (some ⟨P,0,none⟩)),Cd.is (.func (.func 71) #[π (some ⟨P,0,none⟩)] #[]),JV,JV,JV,JV] (GN.keep (K5.later QO) (XU.later QO)) ?start ?steps ?behind
    case start=>intro x;exact⟨fun h=>(by cases h),fun _=>KD.out.drew,fun h=>(by cases h),fun _=>HST.out.ps.drewN 1⟩
    case steps =>
     intro xv W hW;refine⟨?s0,?s1,?s2,?s3,?s4,?s5,?s6,?s7,?s8,trivial⟩;all_goals intro dn hdi QE hcl QC hg K hK
     all_goals(try simp only[Act.put,VG,VF,VE]at hK)
     case s0=>clear QC QE;obtain⟨q0,q1,q2,q3⟩:=(hg.2.1 (Q4 hcl hdi (by kernel_rfl))).1.cells;simp only[GS.out]at q3;go_simp;exact hK.out _ _ (QF _ _) rfl
     case s1=>have hx0:xv 0=ξ #[ι κ kk,σ kx,σ ky,ς Ak mk Ck]:=QC 0 (QE 0);clear QC QE;rw[hx0]at hK⊢;go_simp;exact hK.out _ _ ((QF _ _).alloc (QH _) _) (nN W B0 _ _ P (by have:=HST.out.size;have:=hW.size;omega) (by have:=HST.out.size;have:=hW.size;omega) (by have:=HST.out.size;have:=hW.size;omega) QO kk kx ky kc _ (by have hq:=K1 KD.out.2 hW QO;simp only[GS.out]at hq;exact hq))
     case s2|s3=>clear QC QE;go_simp;exact hK.out _ _ (QF _ _) rfl
     case s4=>have hx3:xv 3=π (some ⟨P,0,none⟩):=QC 3 (QE 3);clear QC QE;rw[hx3]at hK⊢;go_simp;exact hK.out _ _ (QF _ _) rfl
     case s5=>have hx2:xv 2=π (some ⟨P,0,none⟩):=QC 2 (QE 2);have ZP:xv 4=.func (.func 71) #[π (some ⟨P,0,none⟩)] #[]:=QC 4 (QE 4);clear QC QE;rw[hx2]at hK⊢;rw[ZP]at hK⊢;go_simp;refine c₁ (Qh (Tf.out W (hg.2.2.2 hdi)) Hr.out) fun W' QD=>?_;exact⟨rfl,Qc QL.out (QP.back HST.out.QS (hW.trans (QP.QS QD)) (QH _))⟩
     case s6=>have hno:False:=QC 5 (QE 5);exact hno.elim
     case s7=>have hno:False:=QC 6 (QE 6);exact hno.elim
     case s8=>have hno:False:=QC 7 (QE 7);exact hno.elim
    case behind=>intro dn xv W hW hall hx hg;exact(hx 5:False).elim
   |ok c l2 =>
    rw[hr,Rd.bind_ok]at VA;have Hr:=QA hr;have XE:=QA VA;have hl2:=Qnh EX.out hr;have Hcl:Hid (c.len≤10000000):=(by omega:c.len≤10000000);have LJ:l2.length<l'.length:=by exact aq EX.out hr
    clear hr VA;go_wp2_with fail;refine c₁ HN.out fun w1 hb=>?_;replace HST:=QY HST hb;replace KZ:=QA (KZ.out.later QO _ _ hb);clear hb HN;obtain⟨Ak,Ck,QZ,GV⟩:=KZ.out;have KD:Hid (XU B0 w.heap.size (w.heap.size+1) ⟨kk,kx,ky,kc⟩ Ak Ck _):=⟨QZ,GV⟩;obtain⟨mk,hmk⟩:=Mem.ZB (kc.len);have GS:=QA hmk;clear QZ GV hmk KZ;clear Ht;go_wp2;clear XW;refine Q3 [5,8] (GN 5 8 P z d l' l2 (K5 B0 w.heap.size (w.heap.size+1) (QB.node 30 e0 (Qo ⟨kk,kx,ky,kc⟩ c))) (XU B0 w.heap.size (w.heap.size+1) ⟨kk,kx,ky,kc⟩ Ak Ck)) P (w.heap.size) [Cd.is (ξ #[ι κ kk,σ kx,σ ky,ς Ak mk Ck]),lG B0 (w.heap.size+1) QO ⟨kk,kx,ky,kc⟩,Cd.is (π (some ⟨P,0,none⟩)),Cd.is (π (some ⟨P,0,none⟩)),Cd.is (.func (.func 71) #[π (some ⟨P,0,none⟩)] #[]),Ba B0 (w.heap.size+1) QO c,Ba B0 (w.heap.size+1) QO (Qo ⟨kk,kx,ky,kc⟩ c),Cr B0 (w.heap.size+1) QO (QB.node 30 e0 (Qo ⟨kk,kx,ky,kc⟩ c)),Cd.any] (GN.keep (K5.later QO) (XU.later QO)) ?start ?steps ?behind
    case start=>intro x;exact⟨fun h=>(by cases h),fun _=>KD.out.drew,fun h=>(by cases h),fun _=>HST.out.ps.drewN 1⟩
    case steps =>
     intro xv W hW;refine⟨?s0,?s1,?s2,?s3,?s4,?s5,?s6,?s7,?s8,trivial⟩;all_goals intro dn hdi QE hcl QC hg K hK
     all_goals(try simp only[Act.put,VG,VF,VE]at hK)
     case s0=>clear QC QE;obtain⟨q0,q1,q2,q3⟩:=(hg.2.1 (Q4 hcl hdi (by kernel_rfl))).1.cells;simp only[GS.out]at q3;go_simp;exact hK.out _ _ (QF _ _) rfl
     case s1=>have hx0:xv 0=ξ #[ι κ kk,σ kx,σ ky,ς Ak mk Ck]:=QC 0 (QE 0);clear QC QE;rw[hx0]at hK⊢;go_simp;exact hK.out _ _ ((QF _ _).alloc (QH _) _) (nN W B0 _ _ P (by have:=HST.out.size;have:=hW.size;omega) (by have:=HST.out.size;have:=hW.size;omega) (by have:=HST.out.size;have:=hW.size;omega) QO kk kx ky kc _ (by have hq:=K1 KD.out.2 hW QO;simp only[GS.out]at hq;exact hq))
     case s2|s3=>clear QC QE;go_simp;exact hK.out _ _ (QF _ _) rfl
     case s4=>have hx3:xv 3=π (some ⟨P,0,none⟩):=QC 3 (QE 3);clear QC QE;rw[hx3]at hK⊢;go_simp;exact hK.out _ _ (QF _ _) rfl
     case s5=>have hx2:xv 2=π (some ⟨P,0,none⟩):=QC 2 (QE 2);have ZP:xv 4=.func (.func 71) #[π (some ⟨P,0,none⟩)] #[]:=QC 4 (QE 4);clear QC QE;rw[hx2]at hK⊢;rw[ZP]at hK⊢;go_simp;refine(Qf (Tf.out W (hg.2.2.2 hdi)) Hr.out).mono ?_;rintro e W' ⟨v,rfl,⟨A,C,rfl,hf⟩,hps,QD⟩;exact hK.out _ _ ⟨QP.QS QD,GN.call (by decide) hg (Q4 hcl hdi (by kernel_rfl)) (fun h=>h.QS QD YC QO) hps⟩ ⟨A,C,rfl,Xv hf (by have:=HST.out.size;have:=hW.size;omega) (.inl (by have:=HST.out.size;have:=hW.size;omega)) (.inl (by have:=HST.out.size;have:=hW.size;omega)) (QH _)⟩
     case s6=>obtain⟨b1,hx1,XW⟩:jH B0 w.heap.size (w.heap.size+1) ⟨kk,kx,ky,kc⟩ (xv 1) W:=QC 1 (QE 1);obtain⟨A5,C5,ZY,UC⟩:Yg B0 w.heap.size (w.heap.size+1) c (xv 5) W:=QC 5 (QE 5);clear QC QE;rw[hx1]at hK⊢;rw[ZY]at hK⊢;refine Qmd _ _ rfl P B0 w.heap.size (w.heap.size+1) b1 C5 QO (by have:=HST.out.size;have:=hW.size;omega) (by have:=HST.out.size;have:=hW.size;omega) (by have:=HST.out.size;have:=hW.size;omega) ⟨kk,kx,ky,kc⟩ c A5 rfl rfl XW UC Hcl.out ?_;intro v' W' hb hrow;exact hK.out _ _ hb hrow
     case s7=>obtain⟨A6,C6,JK,GI⟩:Yg B0 w.heap.size (w.heap.size+1) (Qo ⟨kk,kx,ky,kc⟩ c) (xv 6) W:=QC 6 (QE 6);clear QC QE;rw[JK]at hK⊢;go_simp;refine c₁ (Qu _ _ _ _ _ W) fun W' hb=>?_;exact hK.out _ _ hb ⟨A6,C6,rfl,Qm GI hb QO⟩
     case s8=>obtain⟨A7,C7,VM,Lg⟩:UF B0 w.heap.size (w.heap.size+1) (QB.node 30 e0 (Qo ⟨kk,kx,ky,kc⟩ c)) (xv 7) W:=QC 7 (QE 7);rw[VM]at hK⊢;have hds:dn 5=true:=QE 5;have QZ:=(hg.2.1 hdi).1;obtain⟨g0,g1,g2,g3⟩:=QZ.VD;obtain⟨y0,y1,y2,y3⟩:=QZ.cells;simp only[QB.node]at Lg hK⊢;go_simp;exact hK.out undef _ ⟨QP.ZT _ _ _ _ _,GN.store (by decide) (hds) (E0 QZ rfl Lg) (Va (hg.2.2.1 hds) (by omega) _ _ _ _)⟩ trivial
    case behind =>
     intro dn xv W hW hall hx hg;have hF:=hg.1 (hall 8);have hps:=hg.2.2.1 (hall 5);have YV:=QA (HST.out.region hW (QH _) (by omega) hps);have CQ:=QA hF;clear hx hF hps hg hall hW KD;go_wp2
     go_roundg (l2.length+1)
     case rel=>exact⟨30,e0,e0,Qo ⟨kk,kx,ky,kc⟩ c,l2,by omega,by omega,YV,CQ,f',by omega,XE.out⟩
     case measure=>omega
  |false =>
  rw[if_neg (V3 b0)]at VA;cases b1:(tx.toList==[91])with
  |true =>
   rw[if_pos (Vp b1)]at VA;obtain⟨t',r,rfl⟩:=Vx (z:=z) (l:=l') (u:=[91]) (by rw[Ht.out];exact b1) (by decide);obtain rfl:t'=⟨tk,tx,tp,tf⟩:=Ht.out;rw[List.tail_cons]at VA;have BO:r.length<N:=by simp only[VX]at hl';omega
   simp only[VX]at hp hl' hf';have XS:Hid (∀W,PS W P z r d→Calls Tryz.prog 89 #[π (some ⟨P,0,none⟩),ι κ ((1:Nat):Int),.func (.func 71) #[π (some ⟨P,0,none⟩)] #[]] W (Qn NV W P z d (ex 1 (d+1) r))) :=
    fun W hW=>Kn P z N _ (ex 1) 1 r d W hW (J0 W xF BB.out) BO hd
   cases hr:ex 1 (d+1) r with
   |bad p er =>
    rw[hr,Rd.QG]at VA;have Hr:=QA hr;have QL:=QA VA;clear hr VA;go_wp2_with fail;refine c₁ HN.out fun w1 hb=>?_;replace HST:=QY HST hb;replace KZ:=QA (KZ.out.later QO _ _ hb);clear hb HN;obtain⟨Ak,Ck,QZ,GV⟩:=KZ.out;have KD:Hid (XU B0 w.heap.size (w.heap.size+1) ⟨kk,kx,ky,kc⟩ Ak Ck _):=⟨QZ,GV⟩;obtain⟨mk,hmk⟩:=Mem.ZB (kc.len);have GS:=QA hmk;clear QZ GV hmk KZ;go_wp2_with fail;refine(Q5 P z _ _ d _ HST.out.ps).mono ?_;rintro e w2 ⟨v,rfl,rfl,hps,QD⟩;replace HST:=hRe HST QD hps;replace KD:=QA (KD.out.QS QD YC QO);clear hps QD Ht;go_wp2;clear XW;refine Q3 [4,7] (GN 4 7 P z d r r (K5 B0 w.heap.size (w.heap.size+1) Jg) (XU B0 w.heap.size (w.heap.size+1) ⟨kk,kx,ky,kc⟩ Ak Ck)) P (w.heap.size) [Cd.is (ξ #[ι κ kk,σ kx,σ ky,ς Ak mk Ck]),Cd.is (π (some ⟨P,0,none⟩)),Cd.is (π (some ⟨P,0,none⟩)),Cd.is (.func (.func 71) #[π (some ⟨P,0,none⟩)] #[]),JV,JV,JV,JV] (GN.keep (K5.later QO) (XU.later QO)) ?start ?steps ?behind
    case start=>intro x;exact⟨fun h=>(by cases h),fun _=>KD.out.drew,fun h=>(by cases h),fun _=>HST.out.ps.drewN 1⟩
    case steps =>
     intro xv W hW;refine⟨?s0,?s1,?s2,?s3,?s4,?s5,?s6,?s7,trivial⟩;all_goals intro dn hdi QE hcl QC hg K hK
     all_goals(try simp only[Act.put,VG,VF,VE]at hK)
     case s0=>clear QC QE;obtain⟨q0,q1,q2,q3⟩:=(hg.2.1 (Q4 hcl hdi (by kernel_rfl))).1.cells;simp only[GS.out]at q3;go_simp;exact hK.out _ _ (QF _ _) rfl
     case s1|s2=>clear QC QE;go_simp;exact hK.out _ _ (QF _ _) rfl
     case s3=>have hx2:xv 2=π (some ⟨P,0,none⟩):=QC 2 (QE 2);clear QC QE;rw[hx2]at hK⊢;go_simp;exact hK.out _ _ (QF _ _) rfl
     case s4=>have hx1:xv 1=π (some ⟨P,0,none⟩):=QC 1 (QE 1);have hx3:xv 3=.func (.func 71) #[π (some ⟨P,0,none⟩)] #[]:=QC 3 (QE 3);clear QC QE;rw[hx1]at hK⊢;rw[hx3]at hK⊢;go_simp;refine c₁ (Qh (XS.out W (hg.2.2.2 hdi)) Hr.out) fun W' QD=>?_;exact⟨rfl,Qc QL.out (QP.back HST.out.QS (hW.trans (QP.QS QD)) (QH _))⟩
     case s5=>have hx0:xv 0=ξ #[ι κ kk,σ kx,σ ky,ς Ak mk Ck]:=QC 0 (QE 0);have hno:False:=QC 4 (QE 4);exact hno.elim
     case s6=>have hno:False:=QC 5 (QE 5);exact hno.elim
     case s7=>have hno:False:=QC 6 (QE 6);exact hno.elim
    case behind=>intro dn xv W hW hall hx hg;exact(hx 4:False).elim
   |ok n2 l2 =>
    obtain⟨YH,YG,YF,YB⟩:=n2;rw[hr,Rd.bind_ok]at VA;have Hr:=QA hr;have hl2:l2.length<r.length:=EX.out _ _ _ _ hr;clear hr;cases hw:QB.want z [93] l2 with
    |bad p er =>
     rw[hw,Rd.QG]at VA;have HW:=QA hw;have QL:=QA VA;clear hw VA;go_wp2_with fail;refine c₁ HN.out fun w1 hb=>?_;replace HST:=QY HST hb;replace KZ:=QA (KZ.out.later QO _ _ hb);clear hb HN;obtain⟨Ak,Ck,QZ,GV⟩:=KZ.out;have KD:Hid (XU B0 w.heap.size (w.heap.size+1) ⟨kk,kx,ky,kc⟩ Ak Ck _):=⟨QZ,GV⟩;obtain⟨mk,hmk⟩:=Mem.ZB (kc.len);have GS:=QA hmk;clear QZ GV hmk KZ;go_wp2_with fail;refine(Q5 P z _ _ d _ HST.out.ps).mono ?_;rintro e w2 ⟨v,rfl,rfl,hps,QD⟩;replace HST:=hRe HST QD hps;replace KD:=QA (KD.out.QS QD YC QO);clear hps QD Ht;go_wp2;clear XW;refine Q3 [4,7] (GN 4 7 P z d r l2 (K5 B0 w.heap.size (w.heap.size+1) (QB.node 31 e0 (Qo ⟨kk,kx,ky,kc⟩ (one ⟨YH,YG,YF,YB⟩)))) (XU B0 w.heap.size (w.heap.size+1) ⟨kk,kx,ky,kc⟩ Ak Ck)) P (w.heap.size) [Cd.is (ξ #[ι κ kk,σ kx,σ ky,ς Ak mk Ck]),Cd.is (π (some ⟨P,0,none⟩)),Cd.is (π (some ⟨P,0,none⟩)),Cd.is (.func (.func 71) #[π (some ⟨P,0,none⟩)] #[]),Cr B0 (w.heap.size+1) QO ⟨YH,YG,YF,YB⟩,Ba B0 (w.heap.size+1) QO (Qo ⟨kk,kx,ky,kc⟩ (one ⟨YH,YG,YF,YB⟩)),Cr B0 (w.heap.size+1) QO (QB.node 31 e0 (Qo ⟨kk,kx,ky,kc⟩ (one ⟨YH,YG,YF,YB⟩))),Cd.any] (GN.keep (K5.later QO) (XU.later QO)) ?start ?steps ?behind
     case start=>intro x;exact⟨fun h=>(by cases h),fun _=>KD.out.drew,fun h=>(by cases h),fun _=>HST.out.ps.drewN 1⟩
     case steps =>
      intro xv W hW;refine⟨?s0,?s1,?s2,?s3,?s4,?s5,?s6,?s7,trivial⟩;all_goals intro dn hdi QE hcl QC hg K hK
      all_goals(try simp only[Act.put,VG,VF,VE]at hK)
      case s0=>clear QC QE;obtain⟨q0,q1,q2,q3⟩:=(hg.2.1 (Q4 hcl hdi (by kernel_rfl))).1.cells;simp only[GS.out]at q3;go_simp;exact hK.out _ _ (QF _ _) rfl
      case s1|s2=>clear QC QE;go_simp;exact hK.out _ _ (QF _ _) rfl
      case s3=>have hx2:xv 2=π (some ⟨P,0,none⟩):=QC 2 (QE 2);clear QC QE;rw[hx2]at hK⊢;go_simp;exact hK.out _ _ (QF _ _) rfl
      case s4=>have hx1:xv 1=π (some ⟨P,0,none⟩):=QC 1 (QE 1);have hx3:xv 3=.func (.func 71) #[π (some ⟨P,0,none⟩)] #[]:=QC 3 (QE 3);clear QC QE;rw[hx1]at hK⊢;rw[hx3]at hK⊢;go_simp;refine(Qf (XS.out W (hg.2.2.2 hdi)) Hr.out).mono ?_;rintro e W' ⟨v,rfl,⟨A,C,rfl,hf⟩,hps,QD⟩;exact hK.out _ _ ⟨QP.QS QD,GN.call (by decide) hg (Q4 hcl hdi (by kernel_rfl)) (fun h=>h.QS QD YC QO) hps⟩ ⟨A,C,rfl,Xv hf (by have:=HST.out.size;have:=hW.size;omega) (.inl (by have:=HST.out.size;have:=hW.size;omega)) (.inl (by have:=HST.out.size;have:=hW.size;omega)) (QH _)⟩
      case s5=>have hx0:xv 0=ξ #[ι κ kk,σ kx,σ ky,ς Ak mk Ck]:=QC 0 (QE 0);obtain⟨A4,C4,ZP,LY⟩:UF B0 w.heap.size (w.heap.size+1) ⟨YH,YG,YF,YB⟩ (xv 4) W:=QC 4 (QE 4);clear QC QE;rw[ZP]at hK⊢;rw[hx0]at hK⊢;go_simp;exact hK.out _ _ ((QF _ _).alloc (QH _) _) (NS W B0 _ _ P (by have:=HST.out.size;have:=hW.size;omega) (by have:=HST.out.size;have:=hW.size;omega) (by have:=HST.out.size;have:=hW.size;omega) QO kk kx ky kc _ (by have hq:=K1 KD.out.2 hW QO;simp only[GS.out]at hq;exact hq) YH YG YF YB _ LY)
      case s6=>obtain⟨A5,C5,ZY,UC⟩:Yg B0 w.heap.size (w.heap.size+1) (Qo ⟨kk,kx,ky,kc⟩ (one ⟨YH,YG,YF,YB⟩)) (xv 5) W:=QC 5 (QE 5);clear QC QE;rw[ZY]at hK⊢;go_simp;refine c₁ (Qu _ _ _ _ _ W) fun W' hb=>?_;exact hK.out _ _ hb ⟨A5,C5,rfl,Qm UC hb QO⟩
      case s7=>obtain⟨A6,C6,JK,GI⟩:UF B0 w.heap.size (w.heap.size+1) (QB.node 31 e0 (Qo ⟨kk,kx,ky,kc⟩ (one ⟨YH,YG,YF,YB⟩))) (xv 6) W:=QC 6 (QE 6);rw[JK]at hK⊢;have hds:dn 4=true:=QE 4;have QZ:=(hg.2.1 hdi).1;obtain⟨g0,g1,g2,g3⟩:=QZ.VD;obtain⟨y0,y1,y2,y3⟩:=QZ.cells;simp only[QB.node]at GI hK⊢;go_simp;exact hK.out undef _ ⟨QP.ZT _ _ _ _ _,GN.store (by decide) (hds) (E0 QZ rfl GI) (Va (hg.2.2.1 hds) (by omega) _ _ _ _)⟩ trivial
     case behind=>intro dn xv W hW hall hx hg;have hF:=hg.1 (hall 7);have hps:=hg.2.2.1 (hall 4);have YV:=QA (HST.out.region hW (QH _) (by omega) hps);have CQ:=QA hF;clear hx hF hps hg hall hW KD;go_wp2_with fail;refine c₁ (Qh (Vt YV.out.ps Nf.out (by decide)) HW.out) fun w3 QD=>?_;have HE:=QA (YV.out.QS.trans QD);clear QD;go_wp2;exact⟨rfl,Qc QL.out HE.out⟩
    |ok u l3 =>
     rw[hw,Rd.bind_ok]at VA;have HW:=QA hw;have XE:=QA VA;have SR:l3.length≤l2.length:=by rw[Xk hw,List.length_tail];omega
     clear hw VA;go_wp2_with fail;refine c₁ HN.out fun w1 hb=>?_;replace HST:=QY HST hb;replace KZ:=QA (KZ.out.later QO _ _ hb);clear hb HN;obtain⟨Ak,Ck,QZ,GV⟩:=KZ.out;have KD:Hid (XU B0 w.heap.size (w.heap.size+1) ⟨kk,kx,ky,kc⟩ Ak Ck _):=⟨QZ,GV⟩;obtain⟨mk,hmk⟩:=Mem.ZB (kc.len);have GS:=QA hmk;clear QZ GV hmk KZ;go_wp2_with fail;refine(Q5 P z _ _ d _ HST.out.ps).mono ?_;rintro e w2 ⟨v,rfl,rfl,hps,QD⟩;replace HST:=hRe HST QD hps;replace KD:=QA (KD.out.QS QD YC QO);clear hps QD Ht;go_wp2;clear XW;refine Q3 [4,7] (GN 4 7 P z d r l2 (K5 B0 w.heap.size (w.heap.size+1) (QB.node 31 e0 (Qo ⟨kk,kx,ky,kc⟩ (one ⟨YH,YG,YF,YB⟩)))) (XU B0 w.heap.size (w.heap.size+1) ⟨kk,kx,ky,kc⟩ Ak Ck)) P (w.heap.size) [Cd.is (ξ #[ι κ kk,σ kx,σ ky,ς Ak mk Ck]),Cd.is (π (some ⟨P,0,none⟩)),Cd.is (π (some ⟨P,0,none⟩)),Cd.is (.func (.func 71) #[π (some ⟨P,0,none⟩)] #[]),Cr B0 (w.heap.size+1) QO ⟨YH,YG,YF,YB⟩,Ba B0 (w.heap.size+1) QO (Qo ⟨kk,kx,ky,kc⟩ (one ⟨YH,YG,YF,YB⟩)),Cr B0 (w.heap.size+1) QO (QB.node 31 e0 (Qo ⟨kk,kx,ky,kc⟩ (one ⟨YH,YG,YF,YB⟩))),Cd.any] (GN.keep (K5.later QO) (XU.later QO)) ?start ?steps ?behind
     case start=>intro x;exact⟨fun h=>(by cases h),fun _=>KD.out.drew,fun h=>(by cases h),fun _=>HST.out.ps.drewN 1⟩
     case steps =>
      intro xv W hW;refine⟨?s0,?s1,?s2,?s3,?s4,?s5,?s6,?s7,trivial⟩;all_goals intro dn hdi QE hcl QC hg K hK
      all_goals(try simp only[Act.put,VG,VF,VE]at hK)
      case s0=>clear QC QE;obtain⟨q0,q1,q2,q3⟩:=(hg.2.1 (Q4 hcl hdi (by kernel_rfl))).1.cells;simp only[GS.out]at q3;go_simp;exact hK.out _ _ (QF _ _) rfl
      case s1|s2=>clear QC QE;go_simp;exact hK.out _ _ (QF _ _) rfl
      case s3=>have hx2:xv 2=π (some ⟨P,0,none⟩):=QC 2 (QE 2);clear QC QE;rw[hx2]at hK⊢;go_simp;exact hK.out _ _ (QF _ _) rfl
      case s4=>have hx1:xv 1=π (some ⟨P,0,none⟩):=QC 1 (QE 1);have hx3:xv 3=.func (.func 71) #[π (some ⟨P,0,none⟩)] #[]:=QC 3 (QE 3);clear QC QE;rw[hx1]at hK⊢;rw[hx3]at hK⊢;go_simp;refine(Qf (XS.out W (hg.2.2.2 hdi)) Hr.out).mono ?_;rintro e W' ⟨v,rfl,⟨A,C,rfl,hf⟩,hps,QD⟩;exact hK.out _ _ ⟨QP.QS QD,GN.call (by decide) hg (Q4 hcl hdi (by kernel_rfl)) (fun h=>h.QS QD YC QO) hps⟩ ⟨A,C,rfl,Xv hf (by have:=HST.out.size;have:=hW.size;omega) (.inl (by have:=HST.out.size;have:=hW.size;omega)) (.inl (by have:=HST.out.size;have:=hW.size;omega)) (QH _)⟩
      case s5=>have hx0:xv 0=ξ #[ι κ kk,σ kx,σ ky,ς Ak mk Ck]:=QC 0 (QE 0);obtain⟨A4,C4,ZP,LY⟩:UF B0 w.heap.size (w.heap.size+1) ⟨YH,YG,YF,YB⟩ (xv 4) W:=QC 4 (QE 4);clear QC QE;rw[ZP]at hK⊢;rw[hx0]at hK⊢;go_simp;exact hK.out _ _ ((QF _ _).alloc (QH _) _) (NS W B0 _ _ P (by have:=HST.out.size;have:=hW.size;omega) (by have:=HST.out.size;have:=hW.size;omega) (by have:=HST.out.size;have:=hW.size;omega) QO kk kx ky kc _ (by have hq:=K1 KD.out.2 hW QO;simp only[GS.out]at hq;exact hq) YH YG YF YB _ LY)
      case s6=>obtain⟨A5,C5,ZY,UC⟩:Yg B0 w.heap.size (w.heap.size+1) (Qo ⟨kk,kx,ky,kc⟩ (one ⟨YH,YG,YF,YB⟩)) (xv 5) W:=QC 5 (QE 5);clear QC QE;rw[ZY]at hK⊢;go_simp;refine c₁ (Qu _ _ _ _ _ W) fun W' hb=>?_;exact hK.out _ _ hb ⟨A5,C5,rfl,Qm UC hb QO⟩
      case s7=>obtain⟨A6,C6,JK,GI⟩:UF B0 w.heap.size (w.heap.size+1) (QB.node 31 e0 (Qo ⟨kk,kx,ky,kc⟩ (one ⟨YH,YG,YF,YB⟩))) (xv 6) W:=QC 6 (QE 6);rw[JK]at hK⊢;have hds:dn 4=true:=QE 4;have QZ:=(hg.2.1 hdi).1;obtain⟨g0,g1,g2,g3⟩:=QZ.VD;obtain⟨y0,y1,y2,y3⟩:=QZ.cells;simp only[QB.node]at GI hK⊢;go_simp;exact hK.out undef _ ⟨QP.ZT _ _ _ _ _,GN.store (by decide) (hds) (E0 QZ rfl GI) (Va (hg.2.2.1 hds) (by omega) _ _ _ _)⟩ trivial
     case behind =>
      intro dn xv W hW hall hx hg;have hF:=hg.1 (hall 7);have hps:=hg.2.2.1 (hall 4);have YV:=QA (HST.out.region hW (QH _) (by omega) hps);have CQ:=QA hF;clear hx hF hps hg hall hW KD;go_wp2_with fail;refine(Qf (Vt YV.out.ps Nf.out (by decide)) HW.out).mono ?_;rintro e w3 ⟨v,rfl,rfl,hps,QD⟩;have yi:=QA (YV.out.read QD hps);have yH:=QA (CQ.out.QS QD QO YC);clear hps QD;go_wp2
      go_roundg (l3.length+1)
      case rel=>exact⟨31,e0,e0,Qo ⟨kk,kx,ky,kc⟩ (one ⟨YH,YG,YF,YB⟩),l3,by omega,by omega,yi,yH,f',by omega,XE.out⟩
      case measure=>omega
  |false =>
  rw[if_neg (V3 b1)]at VA;cases b2:(tx.toList==[46])with
  |true =>
   rw[if_pos (Vp b2)]at VA;obtain⟨t',r,rfl⟩:=Vx (z:=z) (l:=l') (u:=[46]) (by rw[Ht.out];exact b2) (by decide);obtain rfl:t'=⟨tk,tx,tp,tf⟩:=Ht.out;rw[List.tail_cons]at VA;simp only[VX]at hp hl' hf';cases hr:name z r with
   |bad p er =>
    rw[hr,Rd.QG]at VA;have Hr:=QA hr;have QL:=QA VA;clear hr VA;go_wp2_with fail;refine c₁ HN.out fun w1 hb=>?_;replace HST:=QY HST hb;replace KZ:=QA (KZ.out.later QO _ _ hb);clear hb HN;obtain⟨Ak,Ck,QZ,GV⟩:=KZ.out;have KD:Hid (XU B0 w.heap.size (w.heap.size+1) ⟨kk,kx,ky,kc⟩ Ak Ck _):=⟨QZ,GV⟩;obtain⟨mk,hmk⟩:=Mem.ZB (kc.len);have GS:=QA hmk;clear QZ GV hmk KZ;go_wp2_with fail;refine(Q5 P z _ _ d _ HST.out.ps).mono ?_;rintro e w2 ⟨v,rfl,rfl,hps,QD⟩;replace HST:=hRe HST QD hps;replace KD:=QA (KD.out.QS QD YC QO);clear hps QD Ht;go_wp2;clear XW;refine Q3 [3,7] (GN 3 7 P z d r r (K5 B0 w.heap.size (w.heap.size+1) Jg) (XU B0 w.heap.size (w.heap.size+1) ⟨kk,kx,ky,kc⟩ Ak Ck)) P (w.heap.size) [Cd.is (π (some ⟨P,0,none⟩)),Cd.is (π (some ⟨P,0,none⟩)),Cd.is (π (some ⟨P,0,none⟩)),JV,Cd.is (ξ #[ι κ kk,σ kx,σ ky,ς Ak mk Ck]),Ba B0 (w.heap.size+1) QO (one ⟨kk,kx,ky,kc⟩),JV,JV] (GN.keep (K5.later QO) (XU.later QO)) ?start ?steps ?behind
    case start=>intro x;exact⟨fun h=>(by cases h),fun _=>KD.out.drew,fun h=>(by cases h),fun _=>HST.out.ps.drewN 1⟩
    case steps =>
     intro xv W hW;refine⟨?s0,?s1,?s2,?s3,?s4,?s5,?s6,?s7,trivial⟩;all_goals intro dn hdi QE hcl QC hg K hK
     all_goals(try simp only[Act.put,VG,VF,VE]at hK)
     case s0=>clear QC QE;go_simp;exact hK.out _ _ (QF _ _) rfl
     case s1=>have hx0:xv 0=π (some ⟨P,0,none⟩):=QC 0 (QE 0);clear QC QE;rw[hx0]at hK⊢;go_simp;exact hK.out _ _ (QF _ _) rfl
     case s2=>have hx1:xv 1=π (some ⟨P,0,none⟩):=QC 1 (QE 1);clear QC QE;rw[hx1]at hK⊢;go_simp;exact hK.out _ _ (QF _ _) rfl
     case s3=>have hx2:xv 2=π (some ⟨P,0,none⟩):=QC 2 (QE 2);clear QC QE;rw[hx2]at hK⊢;go_simp;refine c₁ (Qh (Jb P z r d W (hg.2.2.2 hdi)) Hr.out) fun W' QD=>?_;exact⟨rfl,Qc QL.out (QP.back HST.out.QS (hW.trans (QP.QS QD)) (QH _))⟩
     case s4=>clear QC QE;obtain⟨q0,q1,q2,q3⟩:=(hg.2.1 (Q4 hcl hdi (by kernel_rfl))).1.cells;simp only[GS.out]at q3;go_simp;exact hK.out _ _ (QF _ _) rfl
     case s5=>have ZP:xv 4=ξ #[ι κ kk,σ kx,σ ky,ς Ak mk Ck]:=QC 4 (QE 4);clear QC QE;rw[ZP]at hK⊢;go_simp;exact hK.out _ _ ((QF _ _).alloc (QH _) _) (qi W B0 _ _ P (by have:=HST.out.size;have:=hW.size;omega) (by have:=HST.out.size;have:=hW.size;omega) (by have:=HST.out.size;have:=hW.size;omega) QO kk kx ky kc _ (by have hq:=K1 KD.out.2 hW QO;simp only[GS.out]at hq;exact hq))
     case s6=>have hno:False:=QC 3 (QE 3);exact hno.elim
     case s7=>have hno:False:=QC 6 (QE 6);exact hno.elim
    case behind=>intro dn xv W hW hall hx hg;exact(hx 3:False).elim
   |ok sx l2 =>
    rw[hr,Rd.bind_ok]at VA;have Hr:=QA hr;have XE:=QA VA;have hl2:l2.length≤r.length:=by have:=Uy (z:=z) (l:=r) (m:=r.length+1) (Nat.lt_succ_self _) _ _ hr;omega
    clear hr VA;go_wp2_with fail;refine c₁ HN.out fun w1 hb=>?_;replace HST:=QY HST hb;replace KZ:=QA (KZ.out.later QO _ _ hb);clear hb HN;obtain⟨Ak,Ck,QZ,GV⟩:=KZ.out;have KD:Hid (XU B0 w.heap.size (w.heap.size+1) ⟨kk,kx,ky,kc⟩ Ak Ck _):=⟨QZ,GV⟩;obtain⟨mk,hmk⟩:=Mem.ZB (kc.len);have GS:=QA hmk;clear QZ GV hmk KZ;go_wp2_with fail;refine(Q5 P z _ _ d _ HST.out.ps).mono ?_;rintro e w2 ⟨v,rfl,rfl,hps,QD⟩;replace HST:=hRe HST QD hps;replace KD:=QA (KD.out.QS QD YC QO);clear hps QD Ht;go_wp2;clear XW;refine Q3 [3,7] (GN 3 7 P z d r l2 (K5 B0 w.heap.size (w.heap.size+1) (QB.node 32 sx (one ⟨kk,kx,ky,kc⟩))) (XU B0 w.heap.size (w.heap.size+1) ⟨kk,kx,ky,kc⟩ Ak Ck)) P (w.heap.size) [Cd.is (π (some ⟨P,0,none⟩)),Cd.is (π (some ⟨P,0,none⟩)),Cd.is (π (some ⟨P,0,none⟩)),Cd.is (σ sx),Cd.is (ξ #[ι κ kk,σ kx,σ ky,ς Ak mk Ck]),Ba B0 (w.heap.size+1) QO (one ⟨kk,kx,ky,kc⟩),Cr B0 (w.heap.size+1) QO (QB.node 32 sx (one ⟨kk,kx,ky,kc⟩)),Cd.any] (GN.keep (K5.later QO) (XU.later QO)) ?start ?steps ?behind
    case start=>intro x;exact⟨fun h=>(by cases h),fun _=>KD.out.drew,fun h=>(by cases h),fun _=>HST.out.ps.drewN 1⟩
    case steps =>
     intro xv W hW;refine⟨?s0,?s1,?s2,?s3,?s4,?s5,?s6,?s7,trivial⟩;all_goals intro dn hdi QE hcl QC hg K hK
     all_goals(try simp only[Act.put,VG,VF,VE]at hK)
     case s0=>clear QC QE;go_simp;exact hK.out _ _ (QF _ _) rfl
     case s1=>have hx0:xv 0=π (some ⟨P,0,none⟩):=QC 0 (QE 0);clear QC QE;rw[hx0]at hK⊢;go_simp;exact hK.out _ _ (QF _ _) rfl
     case s2=>have hx1:xv 1=π (some ⟨P,0,none⟩):=QC 1 (QE 1);clear QC QE;rw[hx1]at hK⊢;go_simp;exact hK.out _ _ (QF _ _) rfl
     case s3=>have hx2:xv 2=π (some ⟨P,0,none⟩):=QC 2 (QE 2);clear QC QE;rw[hx2]at hK⊢;go_simp;refine(Qf (Jb P z r d W (hg.2.2.2 hdi)) Hr.out).mono ?_;rintro e W' ⟨v,rfl,rfl,hps,QD⟩;exact hK.out _ _ ⟨QP.QS QD,GN.call (by decide) hg (Q4 hcl hdi (by kernel_rfl)) (fun h=>h.QS QD YC QO) hps⟩ rfl
     case s4=>clear QC QE;obtain⟨q0,q1,q2,q3⟩:=(hg.2.1 (Q4 hcl hdi (by kernel_rfl))).1.cells;simp only[GS.out]at q3;go_simp;exact hK.out _ _ (QF _ _) rfl
     case s5=>have ZP:xv 4=ξ #[ι κ kk,σ kx,σ ky,ς Ak mk Ck]:=QC 4 (QE 4);clear QC QE;rw[ZP]at hK⊢;go_simp;exact hK.out _ _ ((QF _ _).alloc (QH _) _) (qi W B0 _ _ P (by have:=HST.out.size;have:=hW.size;omega) (by have:=HST.out.size;have:=hW.size;omega) (by have:=HST.out.size;have:=hW.size;omega) QO kk kx ky kc _ (by have hq:=K1 KD.out.2 hW QO;simp only[GS.out]at hq;exact hq))
     case s6=>have hx3:xv 3=σ sx:=QC 3 (QE 3);obtain⟨A5,C5,ZY,UC⟩:Yg B0 w.heap.size (w.heap.size+1) (one ⟨kk,kx,ky,kc⟩) (xv 5) W:=QC 5 (QE 5);clear QC QE;rw[ZY]at hK⊢;rw[hx3]at hK⊢;go_simp;refine c₁ (Qu _ _ _ _ _ W) fun W' hb=>?_;exact hK.out _ _ hb ⟨A5,C5,rfl,Qm UC hb QO⟩
     case s7=>obtain⟨A6,C6,JK,GI⟩:UF B0 w.heap.size (w.heap.size+1) (QB.node 32 sx (one ⟨kk,kx,ky,kc⟩)) (xv 6) W:=QC 6 (QE 6);rw[JK]at hK⊢;have hds:dn 3=true:=QE 3;have QZ:=(hg.2.1 hdi).1;obtain⟨g0,g1,g2,g3⟩:=QZ.VD;obtain⟨y0,y1,y2,y3⟩:=QZ.cells;simp only[QB.node]at GI hK⊢;go_simp;exact hK.out undef _ ⟨QP.ZT _ _ _ _ _,GN.store (by decide) (hds) (E0 QZ rfl GI) (Va (hg.2.2.1 hds) (by omega) _ _ _ _)⟩ trivial
    case behind =>
     intro dn xv W hW hall hx hg;have hF:=hg.1 (hall 7);have hps:=hg.2.2.1 (hall 3);have YV:=QA (HST.out.region hW (QH _) (by omega) hps);have CQ:=QA hF;clear hx hF hps hg hall hW KD;go_wp2
     go_roundg (l2.length+1)
     case rel=>exact⟨32,sx,e0,one ⟨kk,kx,ky,kc⟩,l2,by omega,by omega,YV,CQ,f',by omega,XE.out⟩
     case measure=>omega
  |false =>
   rw[if_neg (V3 b2)]at VA;have QL:=QA VA;clear VA;go_wp2_with fail;refine c₁ HN.out fun w1 hb=>?_;replace HST:=QY HST hb;replace KZ:=QA (KZ.out.later QO _ _ hb);clear hb HN;obtain⟨Ak,Ck,QZ,GV⟩:=KZ.out;have KD:Hid (XU B0 w.heap.size (w.heap.size+1) ⟨kk,kx,ky,kc⟩ Ak Ck _):=⟨QZ,GV⟩;obtain⟨mk,hmk⟩:=Mem.ZB (kc.len);have GS:=QA hmk;clear QZ GV hmk KZ;obtain⟨q0,q1,q2,q3⟩:=KD.out.1.cells;simp only[GS.out]at q3;have Bz:Hid (Fs _ _ _ _):=KD.out.2;rw[GS.out]at Bz;have hne:w.heap.size≠w.heap.size+1:=by omega
   have Mh:w.heap.size+1≠w.heap.size:=by omega
   clear KD Ht BB EX;obtain⟨⟨r0,r1,r2,r3,y0,y1,y2,y3⟩,g0,g1,g2,g3⟩:=HST.out.VD;go_wp2;have hfin:=HST.out.ret (B0:=B0) QL.out GS.out.symm (K9 Bz.out) (fun _ _ _ _=>aC Bz.out _ _ _ _);refine bodyPost_ret (results_cell_row rfl _ _ (w.heap.size+1) 24 _ (0,0) _ rfl hfin.1 Tryz.underlying24 rfl Q8) rfl ?_;exact hfin.2
