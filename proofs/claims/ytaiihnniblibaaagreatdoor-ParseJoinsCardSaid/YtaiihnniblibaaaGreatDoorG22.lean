import Derived.Test.YtaiihnniblibaaaGreatDoorG21
set_option maxHeartbeats 16000000
set_option maxRecDepth 100000
set_option linter.unusedVariables false
open Go.ChangeShapes Go.WideShapes Go.ChangeAt Go.RowKit
open Go.Lib renaming hid→QA
open Go.RowKit.Below renaming refl→QF
open _root_.List renaming setIfInBounds_toArray→VG,set_cons_succ→VF,set_cons_zero→VE,append_assoc→KA,length_append→JF
open _root_.Nat renaming le_refl→QH
open Go.ByteArray renaming toList_eq→GF
open Go.Value renaming string→σ,int→ι,slice→ς,pointer→π,bool→τ
open Go.IntKind renaming i64→κ
open Go.Obj renaming cells→θ
open Go.Ending renaming returned→ρ
namespace Go.Proofs.YtaiihnniblibaaaGreatDoor
namespace QB
open Tree ZR Mem
theorem ow(us:List ByteArray)(t:Tk):((us.map ByteArray.toList).any fun u=>QQ t u)=Rb us t.x:=by
 rw[List.any_map];rfl
theorem Yx(z:Nat):∀d l n r,item z (Jn z) d l=.ok n r→r.length<l.length:=xH (Ue z)
theorem xP(P z V B0 X Bp:Nat)(us:List ByteArray)(wv v:Value)(l:List Tk)(L:List Nd)(w:World)(h:EK P z 0 V B0 X l v L w)(hlen:L.length+l.length≤10000000)(hw:Be X w wv us)(hX:X≠P∧X≠V)
  (hp:w.cell? ⟨Bp,0,none⟩=some (π (some ⟨P,0,none⟩))) (Lj:Bp<B0∧Bp≠P∧Bp≠V∧Bp<w.heap.size) :
  Calls Tryz.prog 44 #[wv,π (some ⟨Bp,0,none⟩),π (some ⟨V,0,none⟩)] w (Yc P z V B0 X l L w (rows z (us.map ByteArray.toList) (l.length+1) l)):=by
 have CR:=QA h;have XQ:=QA hw;have HP0:=QA hp;obtain⟨Aw,Cw,rfl,hwn,-⟩:=hw;have HWN:=QA hwn;clear h hp hwn;go_enter Tryz.func44,Tryz.ntmps44;go_wp2
 go_loopg [] (l.length+1) (fun p wr=>∃(vr:Value)(L2:List Nd)(l':List Tk),l'.length<p∧L2.length+l'.length≤l.length∧Hid (EK P z 0 V B0 X l' vr (L++L2) wr)∧Hid (QU P V B0 X w wr)∧Hid (∃f,l'.length<f∧rows z (us.map ByteArray.toList) (l.length+1) l=(rows z (us.map ByteArray.toList) f l').bind fun c l=>.ok (Vi (Vg L2) c) l))
 case atStart=>exact⟨v,[],l,by omega,by simp,by simpa using CR,QU.refl _ _ _ _ _,_,Nat.lt_succ_self _,(Rd.UO _).symm⟩
 case round =>
  obtain⟨vr,L2,l',hp,hl',HF,HB,XE⟩:=hrel;obtain⟨f,hf,VA⟩:=XE.out;obtain⟨f,rfl⟩:∃f',f=f'+1:=⟨f-1,by omega⟩;have hit:rows z (us.map ByteArray.toList) (f+1) l'=rows z (us.map ByteArray.toList) (f+1) l':=rfl;conv at hit=>rhs;unfold rows
  rw[ow]at hit;obtain⟨t,ht⟩:=Mem.ZB (QB.hd z l');obtain⟨tk,tx,tp,tf⟩:=t;rw[ht]at hit;have Ht:=QA ht;have DB:=Ct tk tx tp tf;have XW:=RH tk tx tp tf;have hwr:w.heap.size≤wr.heap.size:=HB.out.size;have Sa:Hid (wr.cell? ⟨Bp,0,none⟩=some (π (some ⟨P,0,none⟩))):=(HB.out.cell (p:=⟨Bp,0,none⟩) Lj.2.2.2 (.inl Lj.1) Lj.2.1 Lj.2.2.1).trans HP0.out;have FL:=QA (XQ.out.keep HB.out CR.out.ne.2.2.2.2 hX.1 hX.2);have ey:(L++L2).length≤10000000:=by rw[List.length_append];omega
  have HIT:Hid (∀W,PS W P z l' 0→Calls Tryz.prog 47 #[π (some ⟨P,0,none⟩),.func (.func 48) #[π (some ⟨P,0,none⟩)] #[]] W (Qn NV W P z 0 (item z (Jn z) 0 l'))) :=
   fun W hW=>Y9 P z (l'.length+1) _ (Jn z) l' 0 W hW (J0 W rM (rq P z _)) (Nat.lt_succ_self _) (by omega)
  generalize OI:L++L2=Lr at *;have MJ:=QA OI;obtain⟨a9,c9,rfl,-,-⟩:=HF.out.own.slice;clear ht OI;by_cases h5:tk=5
  ·subst h5;rw[if_pos (.inl rfl)]at hit;have LZ:=Sa.out;go_wp2_with fail;refine c₁ (Zn HF.out.ps Ht.out) fun w1 hb1=>?_;have Ro:=QA (HF.out.later hb1);have QJ:=QA (HB.out.trans (QU.of hb1));have EY:Hid (w1.cell? ⟨Bp,0,none⟩=some (π (some ⟨P,0,none⟩))):=(hb1.cell (p:=⟨Bp,0,none⟩) (by show Bp<wr.heap.size;omega)).trans Sa.out;have SE:=QA (FL.out.keep (P:=P) (V:=V) (B0:=B0) (QU.of hb1) HF.out.ne.2.2.2.2 hX.1 hX.2);have hs1:wr.heap.size≤w1.heap.size:=hb1.size;clear hb1 LZ HF Sa FL;cases hr:item z (Jn z) 0 l' with
   |bad p2 er =>
    rw[hr,Rd.QG]at hit;rw[hit,Rd.QG]at VA;have GL:=QA VA;have HR:=QA hr;clear hit VA XE hf hr;go_wp2;refine Gr [4,6,7,8,9,10] (FG P z 0 V B0 X l' l' zN (ς a9 Lr.length c9) (Lr)) (QU P V B0 X) [Cd.is (ς a9 Lr.length c9),Cd.is (π (some ⟨P,0,none⟩)),Cd.is (π (some ⟨P,0,none⟩)),Cd.is (.func (.func 48) #[π (some ⟨P,0,none⟩)] #[]),gI,Cd.is (ι κ (Lr.length:Int)),Cd.any,Cd.any,Cd.any,Cd.any,Cd.any] (QU.refl _ _ _ _ _) (fun _ _ _ h k=>h.trans k) (fun _ _ h=>QU.of h) FG.keep ?start ?steps ?behind
    case start=>exact fun x=>FG.start (Ro.out.later ((QF _ _).drew))
    case steps =>
     intro xv W hW;replace hW:=hW.VI;refine⟨?s0,?s1,?s2,?s3,?s4,?s5,?s6,?s7,?s8,?s9,?GH,trivial⟩;all_goals intro dn hdi QE hcl QC hg K hK
     all_goals(try simp only[Act.put,VG,VF,VE]at hK)
     case s0=>have UZ:dn 10=false:=Q4 hcl hdi (by kernel_rfl);have hbc:=(hg.var UZ).cell;clear QC QE;go_simp;exact hK.out _ _ (QF _ _) rfl
     case s1|s2=>have Mn:=(hW.cell (p:=⟨Bp,0,none⟩) (by show Bp<w1.heap.size;omega) (.inl Lj.1) Lj.2.1 Lj.2.2.1).trans EY.out;clear QC QE;go_simp;exact hK.out _ _ (QF _ _) rfl
     case s3=>have hx2:xv 2=π (some ⟨P,0,none⟩):=QC 2 (QE 2);clear QC QE;rw[hx2]at hK⊢;go_simp;exact hK.out _ _ (QF _ _) rfl
     case s4=>have hx1:xv 1=π (some ⟨P,0,none⟩):=QC 1 (QE 1);have hx3:xv 3=.func (.func 48) #[π (some ⟨P,0,none⟩)] #[]:=QC 3 (QE 3);clear QC QE;rw[hx1]at hK⊢;rw[hx3]at hK⊢;go_simp;refine c₁ (Qh (HIT.out W (hg.ps hdi)) HR.out) fun W' QD=>?_;exact⟨rfl,sX GL.out ((QJ.out.trans hW).trans (QU.QS QD))⟩
     case s5=>have hx0:xv 0=ς a9 Lr.length c9:=QC 0 (QE 0);clear QC QE;rw[hx0]at hK⊢;go_simp;exact hK.out _ _ (QF _ _) rfl
     case s6=>clear QC QE;go_simp;exact hK.out _ _ ⟨QU.of ((QF _ _).alloc (Nat.le_refl _) _),hg.lay hdi⟩ trivial
     case s7=>have hx0:xv 0=ς a9 Lr.length c9:=QC 0 (QE 0);have h6:dn 6=true:=QE 6;have h8:dn 8=false:=Q4 hcl hdi (by kernel_rfl);have h9:dn 9=false:=Q4 hcl hdi (by kernel_rfl);have h10:dn 10=false:=Q4 hcl hdi (by kernel_rfl);obtain⟨b,JK,hB,hl,c0,c1,c2,c3⟩:=hg.laid h6 hdi;have UY:=hg.before hdi;clear QC QE;rw[hx0]at hK⊢;rw[JK]at hK⊢;refine Kj _ _ rfl (Kd B0 W (ς a9 Lr.length c9)) (ς a9 Lr.length c9) Lr b 1 zN (ς none 0 0) rfl rfl ⟨c0,c1,c2,c3⟩ UY.1 Ju (fun b hb=>⟨hb.2.1,hb.2.2⟩) (by omega) ?_;intro v' w' r1 r2 r3;exact hK.out _ _ ⟨QU.own r2 UY.2,hg.app hdi h8 h9 h10 r1 r2 r3⟩ trivial
     case s8 =>
      have ZY:xv 5=ι κ (Lr.length:Int):=QC 5 (QE 5);have h7:dn 7=true:=QE 7;obtain⟨g,C,VM,hB⟩:=hg.form h7;clear QC QE;rw[ZY]at hK⊢;rw[VM]at hK⊢;have TC:(Lr.length:Int)<(Lr.length:Int)+1:=by omega
      go_simp;exact hK.out (π (some ⟨g,Lr.length*4,none⟩)) _ ⟨QU.refl _ _ _ _ _,hg.addr h7 VM⟩ trivial
     case s9=>have hno:False:=QC 4 (QE 4);exact hno.elim
     case GH=>have h7:dn 7=true:=QE 7;obtain⟨g,C,VM,hB⟩:=hg.form h7;have QZ:=hg.var hdi;have hbc:=QZ.cell;have UY:=QZ.VD;clear QC QE;rw[VM]at hK⊢;go_simp;exact hK.out undef _ ⟨QU.grown (Xe W V _),hg.set h7 VM⟩ trivial
    case behind=>intro dn xv W hW hall hx hg;replace hW:=hW.VI;exact(hx 4:False).elim
   |ok n l2 =>
    obtain⟨nk,nx,ny,nc⟩:=n;have DF:l2.length<l'.length:=Yx z 0 l' _ l2 hr;rw[hr,Rd.bind_ok]at hit;rw[hit,Rd.KS]at VA
    have ED:Hid (∃f,l2.length<f∧rows z (us.map ByteArray.toList) (l.length+1) l=(rows z (us.map ByteArray.toList) f l2).bind fun c l => .ok (Vi (Vg (L2++[⟨nk,nx,ny,nc⟩])) c) l):=⟨f,by omega,by
     rw[VA]
     congr 1
     funext c l
     rw[Rd.bind_ok,Xh]⟩
    have HR:=QA hr;clear hit VA XE hf hr;go_wp2;refine Gr [4,6,7,8,9,10] (FG P z 0 V B0 X l' l2 ⟨nk,nx,ny,nc⟩ (ς a9 Lr.length c9) (Lr)) (QU P V B0 X) [Cd.is (ς a9 Lr.length c9),Cd.is (π (some ⟨P,0,none⟩)),Cd.is (π (some ⟨P,0,none⟩)),Cd.is (.func (.func 48) #[π (some ⟨P,0,none⟩)] #[]),Cd.any,Cd.is (ι κ (Lr.length:Int)),Cd.any,Cd.any,Cd.any,Cd.any,Cd.any] (QU.refl _ _ _ _ _) (fun _ _ _ h k=>h.trans k) (fun _ _ h=>QU.of h) FG.keep ?start ?steps ?behind
    case start=>exact fun x=>FG.start (Ro.out.later ((QF _ _).drew))
    case steps =>
     intro xv W hW;replace hW:=hW.VI;refine⟨?s0,?s1,?s2,?s3,?s4,?s5,?s6,?s7,?s8,?s9,?GH,trivial⟩;all_goals intro dn hdi QE hcl QC hg K hK
     all_goals(try simp only[Act.put,VG,VF,VE]at hK)
     case s0=>have UZ:dn 10=false:=Q4 hcl hdi (by kernel_rfl);have hbc:=(hg.var UZ).cell;clear QC QE;go_simp;exact hK.out _ _ (QF _ _) rfl
     case s1|s2=>have Mn:=(hW.cell (p:=⟨Bp,0,none⟩) (by show Bp<w1.heap.size;omega) (.inl Lj.1) Lj.2.1 Lj.2.2.1).trans EY.out;clear QC QE;go_simp;exact hK.out _ _ (QF _ _) rfl
     case s3=>have hx2:xv 2=π (some ⟨P,0,none⟩):=QC 2 (QE 2);clear QC QE;rw[hx2]at hK⊢;go_simp;exact hK.out _ _ (QF _ _) rfl
     case s4=>have hx1:xv 1=π (some ⟨P,0,none⟩):=QC 1 (QE 1);have hx3:xv 3=.func (.func 48) #[π (some ⟨P,0,none⟩)] #[]:=QC 3 (QE 3);clear QC QE;rw[hx1]at hK⊢;rw[hx3]at hK⊢;go_simp;refine(Qf (HIT.out W (hg.ps hdi)) HR.out).mono ?_;rintro e W' ⟨v4,rfl,hv,hps,QD⟩;exact hK.out _ _ ⟨QU.QS QD,hg.call hdi hv hps QD⟩ trivial
     case s5=>have hx0:xv 0=ς a9 Lr.length c9:=QC 0 (QE 0);clear QC QE;rw[hx0]at hK⊢;go_simp;exact hK.out _ _ (QF _ _) rfl
     case s6=>clear QC QE;go_simp;exact hK.out _ _ ⟨QU.of ((QF _ _).alloc (Nat.le_refl _) _),hg.lay hdi⟩ trivial
     case s7=>have hx0:xv 0=ς a9 Lr.length c9:=QC 0 (QE 0);have h6:dn 6=true:=QE 6;have h8:dn 8=false:=Q4 hcl hdi (by kernel_rfl);have h9:dn 9=false:=Q4 hcl hdi (by kernel_rfl);have h10:dn 10=false:=Q4 hcl hdi (by kernel_rfl);obtain⟨b,JK,hB,hl,c0,c1,c2,c3⟩:=hg.laid h6 hdi;have UY:=hg.before hdi;clear QC QE;rw[hx0]at hK⊢;rw[JK]at hK⊢;refine Kj _ _ rfl (Kd B0 W (ς a9 Lr.length c9)) (ς a9 Lr.length c9) Lr b 1 zN (ς none 0 0) rfl rfl ⟨c0,c1,c2,c3⟩ UY.1 Ju (fun b hb=>⟨hb.2.1,hb.2.2⟩) (by omega) ?_;intro v' w' r1 r2 r3;exact hK.out _ _ ⟨QU.own r2 UY.2,hg.app hdi h8 h9 h10 r1 r2 r3⟩ trivial
     case s8 =>
      have ZY:xv 5=ι κ (Lr.length:Int):=QC 5 (QE 5);have h7:dn 7=true:=QE 7;obtain⟨g,C,VM,hB⟩:=hg.form h7;clear QC QE;rw[ZY]at hK⊢;rw[VM]at hK⊢;have TC:(Lr.length:Int)<(Lr.length:Int)+1:=by omega
      go_simp;exact hK.out (π (some ⟨g,Lr.length*4,none⟩)) _ ⟨QU.refl _ _ _ _ _,hg.addr h7 VM⟩ trivial
     case s9=>have h4:dn 4=true:=QE 4;have h8:dn 8=true:=QE 8;have h7:dn 7=true:=hcl 8 7 h8 (by kernel_rfl);obtain⟨g,C,VM,hB⟩:=hg.form h7;obtain⟨An,Cn,ZP⟩:=hg.node h4;have UI:=hg.at8 h8 VM;clear QC QE;rw[ZP]at hK⊢;rw[VM]at hK⊢;rw[UI]at hK⊢;obtain⟨⟨kz,xz,yz,sz,z0,z1,z2,z3⟩,y0,y1,y2,y3⟩:=hg.cells h7 VM;have hput:=hg.put (u:=undef) h4 h7 hdi VM ZP;unfold SC at hput;go_simp;exact hK.out undef _ ⟨QU.own (Gs W g Lr.length _ _ _ _) (fun k e=>by obtain rfl:=Option.some.inj e;exact hB),hput⟩ trivial
     case GH=>have h7:dn 7=true:=QE 7;obtain⟨g,C,VM,hB⟩:=hg.form h7;have QZ:=hg.var hdi;have hbc:=QZ.cell;have UY:=QZ.VD;clear QC QE;rw[VM]at hK⊢;go_simp;exact hK.out undef _ ⟨QU.grown (Xe W V _),hg.set h7 VM⟩ trivial
    case behind =>
     intro dn xv W hW hall hx hg;replace hW:=hW.VI;have Ib:=QA (hg.end_ fun i hi=>hall i hi);have FM:=QA hW;clear hx hg hall hW;have BA:Hid (EK P z 0 V B0 X l2 (xv 7) (L++(L2++[⟨nk,nx,ny,nc⟩])) W):=by have:=Ib.out;rw[←MJ.out,KA]at this;exact this
     have GA:=QA (QJ.out.trans FM.out);go_wp2
     go_roundg (l2.length+1)
     case rel=>exact⟨xv 7,L2++[⟨nk,nx,ny,nc⟩],l2,by omega,by simp;omega,BA,GA,ED⟩
     case measure=>omega
  ·obtain⟨bb,hbb⟩:=Mem.ZB (Rb us tx);have GU:=QA hbb;cases bb with
   |true =>
    rw[if_pos (.inr hbb)]at hit;clear hbb;have LZ:=Sa.out;go_wp2_with fail;refine c₁ (Zn HF.out.ps Ht.out) fun w1 hb1=>?_;have Ro:=QA (HF.out.later hb1);have QJ:=QA (HB.out.trans (QU.of hb1));have EY:Hid (w1.cell? ⟨Bp,0,none⟩=some (π (some ⟨P,0,none⟩))):=(hb1.cell (p:=⟨Bp,0,none⟩) (by show Bp<wr.heap.size;omega)).trans Sa.out;have SE:=QA (FL.out.keep (P:=P) (V:=V) (B0:=B0) (QU.of hb1) HF.out.ne.2.2.2.2 hX.1 hX.2);have hs1:wr.heap.size≤w1.heap.size:=hb1.size;clear hb1 LZ HF Sa FL;have LM:=EY.out;go_wp2_with fail;refine c₁ (Zn Ro.out.ps Ht.out) fun w2 hb2=>?_;have EW:=QA (Ro.out.later hb2);have QR:=QA (QJ.out.trans (QU.of hb2));have BC:Hid (w2.cell? ⟨Bp,0,none⟩=some (π (some ⟨P,0,none⟩))):=(hb2.cell (p:=⟨Bp,0,none⟩) (by show Bp<w1.heap.size;omega)).trans EY.out;have Bn:=QA (SE.out.keep (P:=P) (V:=V) (B0:=B0) (QU.of hb2) Ro.out.ne.2.2.2.2 hX.1 hX.2);have hs2:w1.heap.size≤w2.heap.size:=hb2.size;clear hb2 LM Ro EY SE;go_wp2_with fail;refine(cA us _ tx _ Bn.out.at_).mono ?_;rintro e w2 ⟨rfl,rfl⟩;rw[GU.out];cases hr:item z (Jn z) 0 l' with
    |bad p2 er =>
     rw[hr,Rd.QG]at hit;rw[hit,Rd.QG]at VA;have GL:=QA VA;have HR:=QA hr;clear hit VA XE hf hr;go_wp2;refine Gr [4,6,7,8,9,10] (FG P z 0 V B0 X l' l' zN (ς a9 Lr.length c9) (Lr)) (QU P V B0 X) [Cd.is (ς a9 Lr.length c9),Cd.is (π (some ⟨P,0,none⟩)),Cd.is (π (some ⟨P,0,none⟩)),Cd.is (.func (.func 48) #[π (some ⟨P,0,none⟩)] #[]),gI,Cd.is (ι κ (Lr.length:Int)),Cd.any,Cd.any,Cd.any,Cd.any,Cd.any] (QU.refl _ _ _ _ _) (fun _ _ _ h k=>h.trans k) (fun _ _ h=>QU.of h) FG.keep ?start ?steps ?behind
     case start=>exact fun x=>FG.start (EW.out.later ((QF _ _).drew))
     case steps =>
      intro xv W hW;replace hW:=hW.VI;refine⟨?s0,?s1,?s2,?s3,?s4,?s5,?s6,?s7,?s8,?s9,?GH,trivial⟩;all_goals intro dn hdi QE hcl QC hg K hK
      all_goals(try simp only[Act.put,VG,VF,VE]at hK)
      case s0=>have UZ:dn 10=false:=Q4 hcl hdi (by kernel_rfl);have hbc:=(hg.var UZ).cell;clear QC QE;go_simp;exact hK.out _ _ (QF _ _) rfl
      case s1|s2=>have Mn:=(hW.cell (p:=⟨Bp,0,none⟩) (by show Bp<w2.heap.size;omega) (.inl Lj.1) Lj.2.1 Lj.2.2.1).trans BC.out;clear QC QE;go_simp;exact hK.out _ _ (QF _ _) rfl
      case s3=>have hx2:xv 2=π (some ⟨P,0,none⟩):=QC 2 (QE 2);clear QC QE;rw[hx2]at hK⊢;go_simp;exact hK.out _ _ (QF _ _) rfl
      case s4=>have hx1:xv 1=π (some ⟨P,0,none⟩):=QC 1 (QE 1);have hx3:xv 3=.func (.func 48) #[π (some ⟨P,0,none⟩)] #[]:=QC 3 (QE 3);clear QC QE;rw[hx1]at hK⊢;rw[hx3]at hK⊢;go_simp;refine c₁ (Qh (HIT.out W (hg.ps hdi)) HR.out) fun W' QD=>?_;exact⟨rfl,sX GL.out ((QR.out.trans hW).trans (QU.QS QD))⟩
      case s5=>have hx0:xv 0=ς a9 Lr.length c9:=QC 0 (QE 0);clear QC QE;rw[hx0]at hK⊢;go_simp;exact hK.out _ _ (QF _ _) rfl
      case s6=>clear QC QE;go_simp;exact hK.out _ _ ⟨QU.of ((QF _ _).alloc (Nat.le_refl _) _),hg.lay hdi⟩ trivial
      case s7=>have hx0:xv 0=ς a9 Lr.length c9:=QC 0 (QE 0);have h6:dn 6=true:=QE 6;have h8:dn 8=false:=Q4 hcl hdi (by kernel_rfl);have h9:dn 9=false:=Q4 hcl hdi (by kernel_rfl);have h10:dn 10=false:=Q4 hcl hdi (by kernel_rfl);obtain⟨b,JK,hB,hl,c0,c1,c2,c3⟩:=hg.laid h6 hdi;have UY:=hg.before hdi;clear QC QE;rw[hx0]at hK⊢;rw[JK]at hK⊢;refine Kj _ _ rfl (Kd B0 W (ς a9 Lr.length c9)) (ς a9 Lr.length c9) Lr b 1 zN (ς none 0 0) rfl rfl ⟨c0,c1,c2,c3⟩ UY.1 Ju (fun b hb=>⟨hb.2.1,hb.2.2⟩) (by omega) ?_;intro v' w' r1 r2 r3;exact hK.out _ _ ⟨QU.own r2 UY.2,hg.app hdi h8 h9 h10 r1 r2 r3⟩ trivial
      case s8 =>
       have ZY:xv 5=ι κ (Lr.length:Int):=QC 5 (QE 5);have h7:dn 7=true:=QE 7;obtain⟨g,C,VM,hB⟩:=hg.form h7;clear QC QE;rw[ZY]at hK⊢;rw[VM]at hK⊢;have TC:(Lr.length:Int)<(Lr.length:Int)+1:=by omega
       go_simp;exact hK.out (π (some ⟨g,Lr.length*4,none⟩)) _ ⟨QU.refl _ _ _ _ _,hg.addr h7 VM⟩ trivial
      case s9=>have hno:False:=QC 4 (QE 4);exact hno.elim
      case GH=>have h7:dn 7=true:=QE 7;obtain⟨g,C,VM,hB⟩:=hg.form h7;have QZ:=hg.var hdi;have hbc:=QZ.cell;have UY:=QZ.VD;clear QC QE;rw[VM]at hK⊢;go_simp;exact hK.out undef _ ⟨QU.grown (Xe W V _),hg.set h7 VM⟩ trivial
     case behind=>intro dn xv W hW hall hx hg;replace hW:=hW.VI;exact(hx 4:False).elim
    |ok n l2 =>
     obtain⟨nk,nx,ny,nc⟩:=n;have DF:l2.length<l'.length:=Yx z 0 l' _ l2 hr;rw[hr,Rd.bind_ok]at hit;rw[hit,Rd.KS]at VA
     have ED:Hid (∃f,l2.length<f∧rows z (us.map ByteArray.toList) (l.length+1) l=(rows z (us.map ByteArray.toList) f l2).bind fun c l => .ok (Vi (Vg (L2++[⟨nk,nx,ny,nc⟩])) c) l):=⟨f,by omega,by
      rw[VA]
      congr 1
      funext c l
      rw[Rd.bind_ok,Xh]⟩
     have HR:=QA hr;clear hit VA XE hf hr;go_wp2;refine Gr [4,6,7,8,9,10] (FG P z 0 V B0 X l' l2 ⟨nk,nx,ny,nc⟩ (ς a9 Lr.length c9) (Lr)) (QU P V B0 X) [Cd.is (ς a9 Lr.length c9),Cd.is (π (some ⟨P,0,none⟩)),Cd.is (π (some ⟨P,0,none⟩)),Cd.is (.func (.func 48) #[π (some ⟨P,0,none⟩)] #[]),Cd.any,Cd.is (ι κ (Lr.length:Int)),Cd.any,Cd.any,Cd.any,Cd.any,Cd.any] (QU.refl _ _ _ _ _) (fun _ _ _ h k=>h.trans k) (fun _ _ h=>QU.of h) FG.keep ?start ?steps ?behind
     case start=>exact fun x=>FG.start (EW.out.later ((QF _ _).drew))
     case steps =>
      intro xv W hW;replace hW:=hW.VI;refine⟨?s0,?s1,?s2,?s3,?s4,?s5,?s6,?s7,?s8,?s9,?GH,trivial⟩;all_goals intro dn hdi QE hcl QC hg K hK
      all_goals(try simp only[Act.put,VG,VF,VE]at hK)
      case s0=>have UZ:dn 10=false:=Q4 hcl hdi (by kernel_rfl);have hbc:=(hg.var UZ).cell;clear QC QE;go_simp;exact hK.out _ _ (QF _ _) rfl
      case s1|s2=>have Mn:=(hW.cell (p:=⟨Bp,0,none⟩) (by show Bp<w2.heap.size;omega) (.inl Lj.1) Lj.2.1 Lj.2.2.1).trans BC.out;clear QC QE;go_simp;exact hK.out _ _ (QF _ _) rfl
      case s3=>have hx2:xv 2=π (some ⟨P,0,none⟩):=QC 2 (QE 2);clear QC QE;rw[hx2]at hK⊢;go_simp;exact hK.out _ _ (QF _ _) rfl
      case s4=>have hx1:xv 1=π (some ⟨P,0,none⟩):=QC 1 (QE 1);have hx3:xv 3=.func (.func 48) #[π (some ⟨P,0,none⟩)] #[]:=QC 3 (QE 3);clear QC QE;rw[hx1]at hK⊢;rw[hx3]at hK⊢;go_simp;refine(Qf (HIT.out W (hg.ps hdi)) HR.out).mono ?_;rintro e W' ⟨v4,rfl,hv,hps,QD⟩;exact hK.out _ _ ⟨QU.QS QD,hg.call hdi hv hps QD⟩ trivial
      case s5=>have hx0:xv 0=ς a9 Lr.length c9:=QC 0 (QE 0);clear QC QE;rw[hx0]at hK⊢;go_simp;exact hK.out _ _ (QF _ _) rfl
      case s6=>clear QC QE;go_simp;exact hK.out _ _ ⟨QU.of ((QF _ _).alloc (Nat.le_refl _) _),hg.lay hdi⟩ trivial
      case s7=>have hx0:xv 0=ς a9 Lr.length c9:=QC 0 (QE 0);have h6:dn 6=true:=QE 6;have h8:dn 8=false:=Q4 hcl hdi (by kernel_rfl);have h9:dn 9=false:=Q4 hcl hdi (by kernel_rfl);have h10:dn 10=false:=Q4 hcl hdi (by kernel_rfl);obtain⟨b,JK,hB,hl,c0,c1,c2,c3⟩:=hg.laid h6 hdi;have UY:=hg.before hdi;clear QC QE;rw[hx0]at hK⊢;rw[JK]at hK⊢;refine Kj _ _ rfl (Kd B0 W (ς a9 Lr.length c9)) (ς a9 Lr.length c9) Lr b 1 zN (ς none 0 0) rfl rfl ⟨c0,c1,c2,c3⟩ UY.1 Ju (fun b hb=>⟨hb.2.1,hb.2.2⟩) (by omega) ?_;intro v' w' r1 r2 r3;exact hK.out _ _ ⟨QU.own r2 UY.2,hg.app hdi h8 h9 h10 r1 r2 r3⟩ trivial
      case s8 =>
       have ZY:xv 5=ι κ (Lr.length:Int):=QC 5 (QE 5);have h7:dn 7=true:=QE 7;obtain⟨g,C,VM,hB⟩:=hg.form h7;clear QC QE;rw[ZY]at hK⊢;rw[VM]at hK⊢;have TC:(Lr.length:Int)<(Lr.length:Int)+1:=by omega
       go_simp;exact hK.out (π (some ⟨g,Lr.length*4,none⟩)) _ ⟨QU.refl _ _ _ _ _,hg.addr h7 VM⟩ trivial
      case s9=>have h4:dn 4=true:=QE 4;have h8:dn 8=true:=QE 8;have h7:dn 7=true:=hcl 8 7 h8 (by kernel_rfl);obtain⟨g,C,VM,hB⟩:=hg.form h7;obtain⟨An,Cn,ZP⟩:=hg.node h4;have UI:=hg.at8 h8 VM;clear QC QE;rw[ZP]at hK⊢;rw[VM]at hK⊢;rw[UI]at hK⊢;obtain⟨⟨kz,xz,yz,sz,z0,z1,z2,z3⟩,y0,y1,y2,y3⟩:=hg.cells h7 VM;have hput:=hg.put (u:=undef) h4 h7 hdi VM ZP;unfold SC at hput;go_simp;exact hK.out undef _ ⟨QU.own (Gs W g Lr.length _ _ _ _) (fun k e=>by obtain rfl:=Option.some.inj e;exact hB),hput⟩ trivial
      case GH=>have h7:dn 7=true:=QE 7;obtain⟨g,C,VM,hB⟩:=hg.form h7;have QZ:=hg.var hdi;have hbc:=QZ.cell;have UY:=QZ.VD;clear QC QE;rw[VM]at hK⊢;go_simp;exact hK.out undef _ ⟨QU.grown (Xe W V _),hg.set h7 VM⟩ trivial
     case behind =>
      intro dn xv W hW hall hx hg;replace hW:=hW.VI;have Ib:=QA (hg.end_ fun i hi=>hall i hi);have FM:=QA hW;clear hx hg hall hW;have BA:Hid (EK P z 0 V B0 X l2 (xv 7) (L++(L2++[⟨nk,nx,ny,nc⟩])) W):=by have:=Ib.out;rw[←MJ.out,KA]at this;exact this
      have GA:=QA (QR.out.trans FM.out);go_wp2
      go_roundg (l2.length+1)
      case rel=>exact⟨xv 7,L2++[⟨nk,nx,ny,nc⟩],l2,by omega,by simp;omega,BA,GA,ED⟩
      case measure=>omega
   |false =>
    rw[if_neg (fun e=>e.elim h5 (fun e=>by rw[hbb]at e;cases e))]at hit;rw[hit,Rd.bind_ok,X2]at VA;have GL:=QA VA;clear hbb hit VA XE hf;have LZ:=Sa.out;go_wp2_with fail;refine c₁ (Zn HF.out.ps Ht.out) fun w1 hb1=>?_;have Ro:=QA (HF.out.later hb1);have QJ:=QA (HB.out.trans (QU.of hb1));have EY:Hid (w1.cell? ⟨Bp,0,none⟩=some (π (some ⟨P,0,none⟩))):=(hb1.cell (p:=⟨Bp,0,none⟩) (by show Bp<wr.heap.size;omega)).trans Sa.out;have SE:=QA (FL.out.keep (P:=P) (V:=V) (B0:=B0) (QU.of hb1) HF.out.ne.2.2.2.2 hX.1 hX.2);have hs1:wr.heap.size≤w1.heap.size:=hb1.size;clear hb1 LZ HF Sa FL;have LM:=EY.out;go_wp2_with fail;refine c₁ (Zn Ro.out.ps Ht.out) fun w2 hb2=>?_;have EW:=QA (Ro.out.later hb2);have QR:=QA (QJ.out.trans (QU.of hb2));have BC:Hid (w2.cell? ⟨Bp,0,none⟩=some (π (some ⟨P,0,none⟩))):=(hb2.cell (p:=⟨Bp,0,none⟩) (by show Bp<w1.heap.size;omega)).trans EY.out;have Bn:=QA (SE.out.keep (P:=P) (V:=V) (B0:=B0) (QU.of hb2) Ro.out.ne.2.2.2.2 hX.1 hX.2);have hs2:w1.heap.size≤w2.heap.size:=hb2.size;clear hb2 LM Ro EY SE;go_wp2_with fail;refine(cA us _ tx _ Bn.out.at_).mono ?_;rintro e w2 ⟨rfl,rfl⟩;rw[GU.out];go_wp2
    go_end0
    exact Qw7 GL.out (by have:=EW.out;rw[←MJ.out]at this;exact this) hl' QR.out
theorem V7.fs{w:World}{S S':Nat→Prop}{v:Value}{L:List Nd}(h:V7 w S v L)(hS:∀b,S b→S' b)(hg:∀g,v.ownBlock=some g→S' g):Fs w S' v (Vg L):=by
 obtain⟨ps,h1,ho,hf⟩:=h;rcases ho.2 with⟨rfl,h0⟩|⟨g,cap,cur,rfl,hg0,hg2,q1,q2,q3,q4⟩
 ·rw[List.eq_nil_of_length_eq_zero h0];exact⟨none,0,rfl,by omega⟩
 ·have e:Vg L=Vg (ps.map (·.1)):=by rw[h1]
  rw[e];have hc:=ho.cells (g:=g) rfl;have ad:∀j,(⟨g,0,none⟩:Addr).add j=⟨g,j,none⟩:=fun j=>by unfold Addr.add;split <;> simp_all
  refine U2 g (hg g rfl) ps 0 L.length cap (by rw[←h1];simp) q1 q2 (fun j u hu=>?_) (fun p hp=>(hf p hp).more hS) _ (.inr rfl);have:=hc j u hu;rwa[ad,←Nat.zero_add j]at this
theorem kZ:∀A B:List Nd,Vi (Vg A) (Vg B)=Vg (A++B)
 |[],B=>rfl
 |n::A,B=>by simp only[Vg,Qo,Vi,List.cons_append];rw[kZ A B]
structure FS(w W:World)(P z X:Nat)(l:List Tk)(v:Value)(L:List Nd):Prop where
 YK:EK P z 0 (w.heap.size+2) (w.heap.size+3) X l v L W
 QS:ZM P w W
 cp:W.cell? ⟨w.heap.size,0,none⟩=some (π (some ⟨P,0,none⟩))
 bx:Z1 W (w.heap.size+1) 24 (ι κ 0) (σ ⟨#[]⟩) (σ ⟨#[]⟩) (ς none 0 0)
 lt:P<w.heap.size
 len:L.length+l.length≤10000000
section
variable {w W W':World}{P z X:Nat}{l l2:List Tk}{v v':Value}{L L2:List Nd}
theorem FS.move(h:FS w W P z X l v L)(hb:QU P (w.heap.size+2) (w.heap.size+3) X W W')(hf:EK P z 0 (w.heap.size+2) (w.heap.size+3) X l2 v' L2 W')(hl:L2.length+l2.length≤L.length+l.length):FS w W' P z X l2 v' L2:=by
 have hlt:=h.lt;have hbl:=h.bx.lt
 exact⟨hf,QU.back h.QS hb (by omega) (by omega),(hb.cell (p:=⟨w.heap.size,0,none⟩) (by show w.heap.size<W.heap.size;omega) (.inl (by show w.heap.size<_;omega)) (by show w.heap.size≠P;omega) (by show w.heap.size≠_;omega)).trans h.cp,
  (hb.block _ hbl (.inl (by omega)) (by omega) (by omega)).trans h.bx,h.lt,Nat.le_trans hl h.len⟩
theorem FS.later(h:FS w W P z X l v L)(hb:Below W.heap.size W W'):FS w W' P z X l v L:=h.move (QU.of hb) (h.YK.later hb) (QH _)
theorem FS.words(h:FS w W P z X l v L)(us:List ByteArray)(T:TypeId)(cs:Array Value)(hcs:cs=(us.map σ).toArray)(hu:us.length≤100) :
  FS w (W.alloc (θ cs T)) P z W.heap.size l v L∧Be W.heap.size (W.alloc (θ cs T)) (ς (some ⟨W.heap.size,0,none⟩) us.length us.length) us:=by
 have hb:Below W.heap.size W (W.alloc (θ cs T)):=(QF _ _).alloc (QH _) _;have k:=h.later hb;refine⟨⟨h.YK.vz (QH _) hb (by simp),k.QS,k.cp,k.bx,k.lt,k.len⟩,_,_,rfl,hu,.inr ⟨rfl,fun j u hj=>?_⟩⟩;rw[World.cell?_alloc_at _ _ _ _ rfl,hcs];simp[hj]
theorem gG{V B0:Nat}{R:Rd F}{e:Ending}(h:Yc P z V B0 X l L W R e W'):(∃p er,R=.bad p er∧e=.panicked (Si p er)∧QU P V B0 X W W')∨(∃v' L2 l',R=.ok (Vg L2) l'∧e=ρ (.tuple #[])∧EK P z 0 V B0 X l' v' (L++L2) W'∧L2.length+l'.length≤l.length∧QU P V B0 X W W'):=by
 cases R with
 |bad p er=>exact .inl ⟨p,er,rfl,h.1,h.2⟩
 |ok c l'=>obtain⟨v',L2,h1,h2,h3,h4,h5⟩:=h;exact .inr ⟨v',L2,l',by rw[h2],h1,h3,h4,h5⟩
end
def AE(c:F):Nd:=node 1 ⟨#[]⟩ c
def E1(z:Nat)(l:List Tk):Rd Nd:=(G5 z l).bind fun c l=>.ok (AE c) l
theorem Gj{z:Nat}{l:List Tk}{p:Nat}{er:Int}(h:G5 z l=.bad p er):E1 z l=.bad p er:=by unfold E1;rw[h];rfl
theorem rP{z:Nat}{l l2:List Tk}{c:F}(h:G5 z l=.ok c l2):E1 z l=.ok (AE c) l2:=by unfold E1;rw[h];rfl
theorem Qvp(P z:Nat)(l:List Tk)(w:World)(h:PS w P z l 0) :
  Calls Tryz.prog 28 #[π (some ⟨P,0,none⟩)] w (Qn NV w P z 0 (E1 z l)):=by
 have hlt:=h.lt;have hlen:=h.len;have VY:Hid (FS w (((w.alloc (θ #[π (some ⟨P,0,none⟩)] 42)).alloc XO).alloc (θ #[ς none 0 0] 22)) P z w.heap.size l (ς none 0 0) []):=by
  have hb0:Below w.heap.size w (((w.alloc (θ #[π (some ⟨P,0,none⟩)] 42)).alloc XO).alloc (θ #[ς none 0 0] 22)):=(((QF _ _).alloc (QH _) _).alloc (by simp) _).alloc (by simp;omega) _;refine⟨⟨V7.nil _ _,fun g e=>(by cases e),?_,h.later hb0,⟨by omega,by omega,by omega,by simp,by simp;omega⟩⟩,ZM.of hb0 P,?_,?_,hlt,by simpa using hlen⟩
  ·have:=heap_alloc_new ((w.alloc (θ #[π (some ⟨P,0,none⟩)] 42)).alloc XO) (θ #[ς none 0 0] 22);rwa[show((w.alloc (θ #[π (some ⟨P,0,none⟩)] 42)).alloc XO).heap.size=w.heap.size+2 by simp]at this
  ·simp[go_sem]
  ·have:=(Xm (w.alloc (θ #[π (some ⟨P,0,none⟩)] 42))).later ((QF _ _).alloc (QH _) (θ #[ς none 0 0] 22));rwa[show(w.alloc (θ #[π (some ⟨P,0,none⟩)] 42)).heap.size=w.heap.size+1 by simp]at this
 have HU:Hid ((⟨#[112,97,99,107,97,103,101]⟩:ByteArray).toList=[112,97,99,107,97,103,101]):=by show _=_;rw[GF]
 have HI:Hid (([(⟨#[105,109,112,111,114,116]⟩:ByteArray)]).map ByteArray.toList=Mv):=by show _=_;simp only[List.map,GF];rfl
 have HD:Hid (([(⟨#[99,111,110,115,116]⟩:ByteArray),⟨#[118,97,114]⟩,⟨#[116,121,112,101]⟩,⟨#[102,117,110,99]⟩]).map ByteArray.toList=U8):=by show _=_;simp only[List.map,GF];rfl
 have hsp:G5 z l=G5 z l:=rfl;conv at hsp=>rhs;unfold G5
 have QL:=QA hsp;clear hsp;have yO:Hid (∀W,w.heap.size+2<W→w.heap.size<w.heap.size+3∧w.heap.size≠P∧w.heap.size≠w.heap.size+2∧w.heap.size<W):=fun W hW=>⟨by omega,by omega,by omega,by omega⟩
 clear h hlen;go_enter Tryz.func28,Tryz.ntmps28;go_wp2_with fail;refine(xP P z (w.heap.size+2) (w.heap.size+3) w.heap.size w.heap.size [] (ς none 0 0) _ l _ _ VY.out.YK VY.out.len ⟨none,0,rfl,by simp,.inl rfl⟩ ⟨by have:=VY.out.lt;have:=VY.out.bx.lt;omega,by have:=VY.out.YK.box.lt;omega⟩ VY.out.cp (yO.out _ VY.out.YK.box.lt)).mono ?_;intro e W1 hp;rw[show(List.map ByteArray.toList ([]:List ByteArray))=[]from rfl]at hp;rcases gG hp with⟨p,er,hR,rfl,hb⟩|⟨v1,L1,l1,hR,rfl,hf,hl,hb⟩
 ·have hsp:=QL.out;rw[hR,Rd.QG]at hsp;have HE:=QA (QU.back VY.out.QS hb (by omega) (by omega));have Nh:=QA (Gj hsp);clear hp hb hR hsp;go_wp2;exact⟨rfl,Qc Nh.out HE.out⟩
 have hsp:=QL.out;rw[hR,Rd.bind_ok]at hsp;replace QL:=QA hsp;replace VY:=QA (VY.out.move hb hf (by rw[JF];omega));clear hp hb hf hR hsp hl;obtain⟨od,Hv⟩:∃bt,QQ (QB.hd z l1) [112,97,99,107,97,103,101]=bt:=⟨_,rfl⟩;have BH:=QA Hv;have hsp:=QL.out;rw[Hv]at hsp;clear Hv;cases od with
 |false =>
  rw[Gz rfl,Rd.QG]at hsp;have Nh:=QA (Gj hsp);clear hsp;go_wp2;refine Qz [Cd.is (π (some ⟨P,0,none⟩)),Cd.is (π (some ⟨P,0,none⟩)),Cd.is (π (some ⟨P,0,none⟩)),Cd.is (π (some ⟨P,0,none⟩)),Cd.is (π (some ⟨P,0,none⟩)),Cd.is (π (some ⟨P,0,none⟩)),Cd.is (τ false),⟨fun _ _=>False,fun _ _ _ _ h=>h⟩] ?steps ?behind
  case steps =>
   intro xv W hW;refine⟨?s0,?s1,?s2,?s3,?s4,?s5,?s6,?s7,trivial⟩;all_goals intro hd K hK
   all_goals(try simp only[Act.put,VG,VF,VE]at hK)
   case s0|s3=>clear hd;have Mn:=(hW.cell (p:=⟨w.heap.size,0,none⟩) (by show w.heap.size<W1.heap.size;have:=VY.out.bx.lt;omega)).trans VY.out.cp;go_simp;exact hK.out _ _ (QF _ _) rfl
   case s1=>have hx0:xv 0=π (some ⟨P,0,none⟩):=hd 0;clear hd;rw[hx0]at hK⊢;go_simp;exact hK.out _ _ (QF _ _) rfl
   case s2=>have hx1:xv 1=π (some ⟨P,0,none⟩):=hd 1;clear hd;rw[hx1]at hK⊢;go_simp;exact hK.out _ _ (QF _ _) rfl
   case s4=>have hx3:xv 3=π (some ⟨P,0,none⟩):=hd 3;clear hd;rw[hx3]at hK⊢;go_simp;exact hK.out _ _ (QF _ _) rfl
   case s5=>have ZP:xv 4=π (some ⟨P,0,none⟩):=hd 4;clear hd;rw[ZP]at hK⊢;go_simp;exact hK.out _ _ (QF _ _) rfl
   case s6=>have ZY:xv 5=π (some ⟨P,0,none⟩):=hd 5;clear hd;rw[ZY]at hK⊢;go_simp;refine c₁ (Zq (VY.out.YK.ps.later hW) HU.out BH.out) fun W' hb=>?_;exact hK.out _ _ hb rfl
   case s7=>have hx2:xv 2=π (some ⟨P,0,none⟩):=hd 2;have JK:xv 6=τ false:=hd 6;clear hd;rw[hx2]at hK⊢;rw[JK]at hK⊢;go_simp;refine c₁ (K2 P z _ 0 W (VY.out.YK.ps.later hW)) fun W' hb=>?_;exact⟨rfl,Qc Nh.out ((VY.out.QS.ZN hW).ZN hb)⟩
  case behind=>intro xv W hW hx;exact(hx 7:False).elim
 |true =>
 rw[Ux rfl,Rd.bind_ok]at hsp;replace QL:=QA hsp;clear hsp;go_wp2;refine Qz [Cd.is (π (some ⟨P,0,none⟩)),Cd.is (π (some ⟨P,0,none⟩)),Cd.is (π (some ⟨P,0,none⟩)),Cd.is (π (some ⟨P,0,none⟩)),Cd.is (π (some ⟨P,0,none⟩)),Cd.is (π (some ⟨P,0,none⟩)),Cd.is (τ true),Cd.any] ?steps ?behind
 case steps =>
  intro xv W hW;refine⟨?s0,?s1,?s2,?s3,?s4,?s5,?s6,?s7,trivial⟩;all_goals intro hd K hK
  all_goals(try simp only[Act.put,VG,VF,VE]at hK)
  case s0|s3=>clear hd;have Mn:=(hW.cell (p:=⟨w.heap.size,0,none⟩) (by show w.heap.size<W1.heap.size;have:=VY.out.bx.lt;omega)).trans VY.out.cp;go_simp;exact hK.out _ _ (QF _ _) rfl
  case s1=>have hx0:xv 0=π (some ⟨P,0,none⟩):=hd 0;clear hd;rw[hx0]at hK⊢;go_simp;exact hK.out _ _ (QF _ _) rfl
  case s2=>have hx1:xv 1=π (some ⟨P,0,none⟩):=hd 1;clear hd;rw[hx1]at hK⊢;go_simp;exact hK.out _ _ (QF _ _) rfl
  case s4=>have hx3:xv 3=π (some ⟨P,0,none⟩):=hd 3;clear hd;rw[hx3]at hK⊢;go_simp;exact hK.out _ _ (QF _ _) rfl
  case s5=>have ZP:xv 4=π (some ⟨P,0,none⟩):=hd 4;clear hd;rw[ZP]at hK⊢;go_simp;exact hK.out _ _ (QF _ _) rfl
  case s6=>have ZY:xv 5=π (some ⟨P,0,none⟩):=hd 5;clear hd;rw[ZY]at hK⊢;go_simp;refine c₁ (Zq (VY.out.YK.ps.later hW) HU.out BH.out) fun W' hb=>?_;exact hK.out _ _ hb rfl
  case s7=>have hx2:xv 2=π (some ⟨P,0,none⟩):=hd 2;have JK:xv 6=τ true:=hd 6;clear hd;rw[hx2]at hK⊢;rw[JK]at hK⊢;go_simp;refine(Z3 P W).mono ?_;rintro e W' ⟨rfl,rfl⟩;exact hK.out _ _ (QF _ _) trivial
 case behind =>
  intro xv W hW hx;replace VY:=QA (VY.out.later hW)
  rename World=>eT
  clear hx hW BH;have HIT:Hid (∀W,PS W P z l1 0→Calls Tryz.prog 47 #[π (some ⟨P,0,none⟩),.func (.func 48) #[π (some ⟨P,0,none⟩)] #[]] W (Qn NV W P z 0 (item z (Jn z) 0 l1))) :=
   fun W hW=>Y9 P z (l1.length+1) _ (Jn z) l1 0 W hW (J0 W rM (rq P z _)) (Nat.lt_succ_self _) (by omega)
  obtain⟨a9,c9,rfl,-,-⟩:=VY.out.YK.own.slice;have ey:=VY.out.len;generalize OI:[]++L1=Lr at *;have MJ:=QA OI;clear OI;cases hr:item z (Jn z) 0 l1 with
  |bad p2 er =>
   have hsp:=QL.out;rw[hr,Rd.QG]at hsp;have Nh:=QA (Gj hsp);have HR:=QA hr;clear hsp hr;go_wp2;have zQ:=QA VY.out.YK;refine Gr [4,6,7,8,9,10] (FG P z 0 (w.heap.size+2) (w.heap.size+3) w.heap.size l1 l1 zN (ς a9 Lr.length c9) (Lr)) (QU P (w.heap.size+2) (w.heap.size+3) w.heap.size) [Cd.is (ς a9 Lr.length c9),Cd.is (π (some ⟨P,0,none⟩)),Cd.is (π (some ⟨P,0,none⟩)),Cd.is (.func (.func 48) #[π (some ⟨P,0,none⟩)] #[]),gI,Cd.is (ι κ (Lr.length:Int)),Cd.any,Cd.any,Cd.any,Cd.any,Cd.any] (QU.refl _ _ _ _ _) (fun _ _ _ h k=>h.trans k) (fun _ _ h=>QU.of h) FG.keep ?start ?steps ?behind
   case start=>exact fun x=>FG.start (zQ.out.later ((QF _ _).drew))
   case steps =>
    intro xv W hW;replace hW:=hW.VI;refine⟨?s0,?s1,?s2,?s3,?s4,?s5,?s6,?s7,?s8,?s9,?GH,trivial⟩;all_goals intro dn hdi QE hcl QC hg K hK
    all_goals(try simp only[Act.put,VG,VF,VE]at hK)
    case s0=>have UZ:dn 10=false:=Q4 hcl hdi (by kernel_rfl);have hbc:W.cell? ⟨w.heap.size+1+1,0,none⟩=_:=(hg.var UZ).cell;clear QC QE;go_simp;exact hK.out _ _ (QF _ _) rfl
    case s1|s2=>have Mn:=(hW.cell (p:=⟨w.heap.size,0,none⟩) (by show w.heap.size<eT.heap.size;have:=VY.out.bx.lt;omega) (.inl (by show w.heap.size<_;omega)) (by show w.heap.size≠P;omega) (by show w.heap.size≠_;omega)).trans VY.out.cp;clear QC QE;go_simp;exact hK.out _ _ (QF _ _) rfl
    case s3=>have hx2:xv 2=π (some ⟨P,0,none⟩):=QC 2 (QE 2);clear QC QE;rw[hx2]at hK⊢;go_simp;exact hK.out _ _ (QF _ _) rfl
    case s4=>have hx1:xv 1=π (some ⟨P,0,none⟩):=QC 1 (QE 1);have hx3:xv 3=.func (.func 48) #[π (some ⟨P,0,none⟩)] #[]:=QC 3 (QE 3);clear QC QE;rw[hx1]at hK⊢;rw[hx3]at hK⊢;go_simp;refine c₁ (Qh (HIT.out W (hg.ps hdi)) HR.out) fun W' QD=>?_;exact⟨rfl,Qc Nh.out (QU.back VY.out.QS (hW.trans (QU.QS QD)) (by omega) (by omega))⟩
    case s5=>have hx0:xv 0=ς a9 Lr.length c9:=QC 0 (QE 0);clear QC QE;rw[hx0]at hK⊢;go_simp;exact hK.out _ _ (QF _ _) rfl
    case s6=>clear QC QE;go_simp;exact hK.out _ _ ⟨QU.of ((QF _ _).alloc (QH _) _),hg.lay hdi⟩ trivial
    case s7=>have hx0:xv 0=ς a9 Lr.length c9:=QC 0 (QE 0);have h6:dn 6=true:=QE 6;have h8:dn 8=false:=Q4 hcl hdi (by kernel_rfl);have h9:dn 9=false:=Q4 hcl hdi (by kernel_rfl);have h10:dn 10=false:=Q4 hcl hdi (by kernel_rfl);obtain⟨b,JK,hB,hl,c0,c1,c2,c3⟩:=hg.laid h6 hdi;have UY:=hg.before hdi;clear QC QE;rw[hx0]at hK⊢;rw[JK]at hK⊢;refine Kj _ _ rfl (Kd (w.heap.size+3) W (ς a9 Lr.length c9)) (ς a9 Lr.length c9) Lr b 1 zN (ς none 0 0) rfl rfl ⟨c0,c1,c2,c3⟩ UY.1 Ju (fun b hb=>⟨hb.2.1,hb.2.2⟩) (by omega) ?_;intro v' w' r1 r2 r3;exact hK.out _ _ ⟨QU.own r2 UY.2,hg.app hdi h8 h9 h10 r1 r2 r3⟩ trivial
    case s8 =>
     have ZY:xv 5=ι κ (Lr.length:Int):=QC 5 (QE 5);have h7:dn 7=true:=QE 7;obtain⟨g,C,VM,hB⟩:=hg.form h7;clear QC QE;rw[ZY]at hK⊢;rw[VM]at hK⊢;have TC:(Lr.length:Int)<(Lr.length:Int)+1:=by omega
     go_simp;exact hK.out (π (some ⟨g,Lr.length*4,none⟩)) _ ⟨QU.refl _ _ _ _ _,hg.addr h7 VM⟩ trivial
    case s9=>have hno:False:=QC 4 (QE 4);exact hno.elim
    case GH=>have h7:dn 7=true:=QE 7;obtain⟨g,C,VM,hB⟩:=hg.form h7;have QZ:=hg.var hdi;have hbc:W.cell? ⟨w.heap.size+1+1,0,none⟩=_:=QZ.cell;have UY:W.frozen? ⟨w.heap.size+1+1,0,none⟩=_:=QZ.VD;clear QC QE;rw[VM]at hK⊢;go_simp;exact hK.out undef _ ⟨QU.grown (Xe W (w.heap.size+2) _),hg.set h7 VM⟩ trivial
   case behind=>intro dn xv W hW hall hx hg;replace hW:=hW.VI;exact(hx 4:False).elim
  |ok n l2 =>
   have hsp:=QL.out;rw[hr,Rd.bind_ok]at hsp;replace QL:=QA hsp;have DF:l2.length<l1.length:=Yx z 0 l1 _ l2 hr;have HR:=QA hr;obtain⟨nk,nx,ny,nc⟩:=n;clear hsp hr;go_wp2;have zQ:=QA VY.out.YK;refine Gr [4,6,7,8,9,10] (FG P z 0 (w.heap.size+2) (w.heap.size+3) w.heap.size l1 l2 ⟨nk,nx,ny,nc⟩ (ς a9 Lr.length c9) (Lr)) (QU P (w.heap.size+2) (w.heap.size+3) w.heap.size) [Cd.is (ς a9 Lr.length c9),Cd.is (π (some ⟨P,0,none⟩)),Cd.is (π (some ⟨P,0,none⟩)),Cd.is (.func (.func 48) #[π (some ⟨P,0,none⟩)] #[]),Cd.any,Cd.is (ι κ (Lr.length:Int)),Cd.any,Cd.any,Cd.any,Cd.any,Cd.any] (QU.refl _ _ _ _ _) (fun _ _ _ h k=>h.trans k) (fun _ _ h=>QU.of h) FG.keep ?start ?steps ?behind
   case start=>exact fun x=>FG.start (zQ.out.later ((QF _ _).drew))
   case steps =>
    intro xv W hW;replace hW:=hW.VI;refine⟨?s0,?s1,?s2,?s3,?s4,?s5,?s6,?s7,?s8,?s9,?GH,trivial⟩;all_goals intro dn hdi QE hcl QC hg K hK
    all_goals(try simp only[Act.put,VG,VF,VE]at hK)
    case s0=>have UZ:dn 10=false:=Q4 hcl hdi (by kernel_rfl);have hbc:W.cell? ⟨w.heap.size+1+1,0,none⟩=_:=(hg.var UZ).cell;clear QC QE;go_simp;exact hK.out _ _ (QF _ _) rfl
    case s1|s2=>have Mn:=(hW.cell (p:=⟨w.heap.size,0,none⟩) (by show w.heap.size<eT.heap.size;have:=VY.out.bx.lt;omega) (.inl (by show w.heap.size<_;omega)) (by show w.heap.size≠P;omega) (by show w.heap.size≠_;omega)).trans VY.out.cp;clear QC QE;go_simp;exact hK.out _ _ (QF _ _) rfl
    case s3=>have hx2:xv 2=π (some ⟨P,0,none⟩):=QC 2 (QE 2);clear QC QE;rw[hx2]at hK⊢;go_simp;exact hK.out _ _ (QF _ _) rfl
    case s4=>have hx1:xv 1=π (some ⟨P,0,none⟩):=QC 1 (QE 1);have hx3:xv 3=.func (.func 48) #[π (some ⟨P,0,none⟩)] #[]:=QC 3 (QE 3);clear QC QE;rw[hx1]at hK⊢;rw[hx3]at hK⊢;go_simp;refine(Qf (HIT.out W (hg.ps hdi)) HR.out).mono ?_;rintro e W' ⟨v4,rfl,hv,hps,QD⟩;exact hK.out _ _ ⟨QU.QS QD,hg.call hdi hv hps QD⟩ trivial
    case s5=>have hx0:xv 0=ς a9 Lr.length c9:=QC 0 (QE 0);clear QC QE;rw[hx0]at hK⊢;go_simp;exact hK.out _ _ (QF _ _) rfl
    case s6=>clear QC QE;go_simp;exact hK.out _ _ ⟨QU.of ((QF _ _).alloc (QH _) _),hg.lay hdi⟩ trivial
    case s7=>have hx0:xv 0=ς a9 Lr.length c9:=QC 0 (QE 0);have h6:dn 6=true:=QE 6;have h8:dn 8=false:=Q4 hcl hdi (by kernel_rfl);have h9:dn 9=false:=Q4 hcl hdi (by kernel_rfl);have h10:dn 10=false:=Q4 hcl hdi (by kernel_rfl);obtain⟨b,JK,hB,hl,c0,c1,c2,c3⟩:=hg.laid h6 hdi;have UY:=hg.before hdi;clear QC QE;rw[hx0]at hK⊢;rw[JK]at hK⊢;refine Kj _ _ rfl (Kd (w.heap.size+3) W (ς a9 Lr.length c9)) (ς a9 Lr.length c9) Lr b 1 zN (ς none 0 0) rfl rfl ⟨c0,c1,c2,c3⟩ UY.1 Ju (fun b hb=>⟨hb.2.1,hb.2.2⟩) (by omega) ?_;intro v' w' r1 r2 r3;exact hK.out _ _ ⟨QU.own r2 UY.2,hg.app hdi h8 h9 h10 r1 r2 r3⟩ trivial
    case s8 =>
     have ZY:xv 5=ι κ (Lr.length:Int):=QC 5 (QE 5);have h7:dn 7=true:=QE 7;obtain⟨g,C,VM,hB⟩:=hg.form h7;clear QC QE;rw[ZY]at hK⊢;rw[VM]at hK⊢;have TC:(Lr.length:Int)<(Lr.length:Int)+1:=by omega
     go_simp;exact hK.out (π (some ⟨g,Lr.length*4,none⟩)) _ ⟨QU.refl _ _ _ _ _,hg.addr h7 VM⟩ trivial
    case s9=>have h4:dn 4=true:=QE 4;have h8:dn 8=true:=QE 8;have h7:dn 7=true:=hcl 8 7 h8 (by kernel_rfl);obtain⟨g,C,VM,hB⟩:=hg.form h7;obtain⟨An,Cn,ZP⟩:=hg.node h4;have UI:=hg.at8 h8 VM;clear QC QE;rw[ZP]at hK⊢;rw[VM]at hK⊢;rw[UI]at hK⊢;obtain⟨⟨kz,xz,yz,sz,z0,z1,z2,z3⟩,y0,y1,y2,y3⟩:=hg.cells h7 VM;have hput:=hg.put (u:=undef) h4 h7 hdi VM ZP;unfold SC at hput;go_simp;exact hK.out undef _ ⟨QU.own (Gs W g Lr.length _ _ _ _) (fun k e=>by obtain rfl:=Option.some.inj e;exact hB),hput⟩ trivial
    case GH=>have h7:dn 7=true:=QE 7;obtain⟨g,C,VM,hB⟩:=hg.form h7;have QZ:=hg.var hdi;have hbc:W.cell? ⟨w.heap.size+1+1,0,none⟩=_:=QZ.cell;have UY:W.frozen? ⟨w.heap.size+1+1,0,none⟩=_:=QZ.VD;clear QC QE;rw[VM]at hK⊢;go_simp;exact hK.out undef _ ⟨QU.grown (Xe W (w.heap.size+2) _),hg.set h7 VM⟩ trivial
   case behind =>
    intro dn xv W hW hall hx hg;replace hW:=hW.VI;have Ib:=QA (hg.end_ fun i hi=>hall i hi);have FM:=QA hW;clear hx hg hall hW;replace VY:=QA (VY.out.move FM.out Ib.out (by simp;omega));generalize xv 7=v2 at *
    rename World=>W2
    clear Ib FM zQ HIT HR ey DF;have hsz:=VY.out.YK.box.lt;obtain⟨hq1,hq2⟩:=VY.out.words [⟨#[105,109,112,111,114,116]⟩] 9 #[σ ⟨#[105,109,112,111,114,116]⟩] rfl (by decide);replace VY:=QA hq1;have Pn:=QA hq2;clear hq1 hq2;go_wp2_with fail;refine(xP P z (w.heap.size+2) (w.heap.size+3) W2.heap.size w.heap.size [⟨#[105,109,112,111,114,116]⟩] _ _ l2 _ _ VY.out.YK VY.out.len Pn.out ⟨by have:=VY.out.lt;have:=VY.out.bx.lt;omega,by have:=VY.out.YK.box.lt;omega⟩ VY.out.cp (yO.out _ VY.out.YK.box.lt)).mono ?_;intro e W3 hp;rw[HI.out]at hp;rcases gG hp with⟨p,er,hR,rfl,hb⟩|⟨vb,Lb,lb,hR,rfl,hf,hl,hb⟩
    ·have hsp:=QL.out;rw[hR,Rd.QG]at hsp;have HE:=QA (QU.back VY.out.QS hb (by omega) (by omega));have Nh:=QA (Gj hsp);clear hp hb hR hsp;go_wp2;exact⟨rfl,Qc Nh.out HE.out⟩
    have hsp:=QL.out;rw[hR,Rd.bind_ok]at hsp;replace QL:=QA hsp;replace VY:=QA (VY.out.move hb hf (by rw[JF];omega));clear hp hb hf hR hsp hl;clear hsz Pn;have hsz:=VY.out.YK.box.lt;obtain⟨hq1,hq2⟩:=VY.out.words [⟨#[99,111,110,115,116]⟩,⟨#[118,97,114]⟩,⟨#[116,121,112,101]⟩,⟨#[102,117,110,99]⟩] 9 #[σ ⟨#[99,111,110,115,116]⟩,σ ⟨#[118,97,114]⟩,σ ⟨#[116,121,112,101]⟩,σ ⟨#[102,117,110,99]⟩] rfl (by decide);replace VY:=QA hq1;have Pn:=QA hq2;clear hq1 hq2;go_wp2_with fail;refine(xP P z (w.heap.size+2) (w.heap.size+3) W3.heap.size w.heap.size [⟨#[99,111,110,115,116]⟩,⟨#[118,97,114]⟩,⟨#[116,121,112,101]⟩,⟨#[102,117,110,99]⟩] _ _ lb _ _ VY.out.YK VY.out.len Pn.out ⟨by have:=VY.out.lt;have:=VY.out.bx.lt;omega,by have:=VY.out.YK.box.lt;omega⟩ VY.out.cp (yO.out _ VY.out.YK.box.lt)).mono ?_;intro e W4 hp;rw[HD.out]at hp;rcases gG hp with⟨p,er,hR,rfl,hb⟩|⟨vc,Lc,lc,hR,rfl,hf,hl,hb⟩
    ·have hsp:=QL.out;rw[hR,Rd.QG]at hsp;have HE:=QA (QU.back VY.out.QS hb (by omega) (by omega));have Nh:=QA (Gj hsp);clear hp hb hR hsp;go_wp2;exact⟨rfl,Qc Nh.out HE.out⟩
    have hsp:=QL.out;rw[hR,Rd.bind_ok]at hsp;replace QL:=QA hsp;replace VY:=QA (VY.out.move hb hf (by rw[JF];omega));clear hp hb hf hR hsp hl;clear hsz Pn;obtain⟨iZ,Hv⟩:∃bt,decide (lc.length=0)=bt:=⟨_,rfl⟩;have BH:=QA Hv;have hsp:=QL.out;rw[Hv]at hsp;clear Hv;cases iZ with
    |false =>
     rw[Gz rfl,Rd.QG]at hsp;have Nh:=QA (Gj hsp);clear hsp;go_wp2;refine Qz [Cd.is (π (some ⟨P,0,none⟩)),Cd.is (π (some ⟨P,0,none⟩)),Cd.is (π (some ⟨P,0,none⟩)),Cd.is (π (some ⟨P,0,none⟩)),Cd.is (π (some ⟨P,0,none⟩)),Cd.is (π (some ⟨P,0,none⟩)),Cd.is (τ false),⟨fun _ _=>False,fun _ _ _ _ h=>h⟩] ?steps ?behind
     case steps =>
      intro xv W hW;refine⟨?s0,?s1,?s2,?s3,?s4,?s5,?s6,?s7,trivial⟩;all_goals intro hd K hK
      all_goals(try simp only[Act.put,VG,VF,VE]at hK)
      case s0|s3=>clear hd;have Mn:=(hW.cell (p:=⟨w.heap.size,0,none⟩) (by show w.heap.size<W4.heap.size;have:=VY.out.bx.lt;omega)).trans VY.out.cp;go_simp;exact hK.out _ _ (QF _ _) rfl
      case s1=>have hx0:xv 0=π (some ⟨P,0,none⟩):=hd 0;clear hd;rw[hx0]at hK⊢;go_simp;exact hK.out _ _ (QF _ _) rfl
      case s2=>have hx1:xv 1=π (some ⟨P,0,none⟩):=hd 1;clear hd;rw[hx1]at hK⊢;go_simp;exact hK.out _ _ (QF _ _) rfl
      case s4=>have hx3:xv 3=π (some ⟨P,0,none⟩):=hd 3;clear hd;rw[hx3]at hK⊢;go_simp;exact hK.out _ _ (QF _ _) rfl
      case s5=>have ZP:xv 4=π (some ⟨P,0,none⟩):=hd 4;clear hd;rw[ZP]at hK⊢;go_simp;exact hK.out _ _ (QF _ _) rfl
      case s6=>have ZY:xv 5=π (some ⟨P,0,none⟩):=hd 5;clear hd;rw[ZY]at hK⊢;go_simp;have Ol:=xD P z _ 0 W (VY.out.YK.ps.later hW);rw[BH.out]at Ol;refine Ol.mono ?_;rintro e W' ⟨rfl,q,rfl⟩;have hb:Below W.heap.size W (W.drewN q):=⟨rfl,rfl,rfl,QH _,fun _ _=>rfl⟩;exact hK.out _ _ hb rfl
      case s7=>have hx2:xv 2=π (some ⟨P,0,none⟩):=hd 2;have JK:xv 6=τ false:=hd 6;clear hd;rw[hx2]at hK⊢;rw[JK]at hK⊢;go_simp;refine c₁ (K2 P z _ 0 W (VY.out.YK.ps.later hW)) fun W' hb=>?_;exact⟨rfl,Qc Nh.out ((VY.out.QS.ZN hW).ZN hb)⟩
     case behind=>intro xv W hW hx;exact(hx 7:False).elim
    |true =>
    rw[Ux rfl,Rd.bind_ok]at hsp;replace QL:=QA hsp;clear hsp;go_wp2;refine Qz [Cd.is (π (some ⟨P,0,none⟩)),Cd.is (π (some ⟨P,0,none⟩)),Cd.is (π (some ⟨P,0,none⟩)),Cd.is (π (some ⟨P,0,none⟩)),Cd.is (π (some ⟨P,0,none⟩)),Cd.is (π (some ⟨P,0,none⟩)),Cd.is (τ true),Cd.any] ?steps ?behind
    case steps =>
     intro xv W hW;refine⟨?s0,?s1,?s2,?s3,?s4,?s5,?s6,?s7,trivial⟩;all_goals intro hd K hK
     all_goals(try simp only[Act.put,VG,VF,VE]at hK)
     case s0|s3=>clear hd;have Mn:=(hW.cell (p:=⟨w.heap.size,0,none⟩) (by show w.heap.size<W4.heap.size;have:=VY.out.bx.lt;omega)).trans VY.out.cp;go_simp;exact hK.out _ _ (QF _ _) rfl
     case s1=>have hx0:xv 0=π (some ⟨P,0,none⟩):=hd 0;clear hd;rw[hx0]at hK⊢;go_simp;exact hK.out _ _ (QF _ _) rfl
     case s2=>have hx1:xv 1=π (some ⟨P,0,none⟩):=hd 1;clear hd;rw[hx1]at hK⊢;go_simp;exact hK.out _ _ (QF _ _) rfl
     case s4=>have hx3:xv 3=π (some ⟨P,0,none⟩):=hd 3;clear hd;rw[hx3]at hK⊢;go_simp;exact hK.out _ _ (QF _ _) rfl
     case s5=>have ZP:xv 4=π (some ⟨P,0,none⟩):=hd 4;clear hd;rw[ZP]at hK⊢;go_simp;exact hK.out _ _ (QF _ _) rfl
     case s6=>have ZY:xv 5=π (some ⟨P,0,none⟩):=hd 5;clear hd;rw[ZY]at hK⊢;go_simp;have Ol:=xD P z _ 0 W (VY.out.YK.ps.later hW);rw[BH.out]at Ol;refine Ol.mono ?_;rintro e W' ⟨rfl,q,rfl⟩;have hb:Below W.heap.size W (W.drewN q):=⟨rfl,rfl,rfl,QH _,fun _ _=>rfl⟩;exact hK.out _ _ hb rfl
     case s7=>have hx2:xv 2=π (some ⟨P,0,none⟩):=hd 2;have JK:xv 6=τ true:=hd 6;clear hd;rw[hx2]at hK⊢;rw[JK]at hK⊢;go_simp;refine(Z3 P W).mono ?_;rintro e W' ⟨rfl,rfl⟩;exact hK.out _ _ (QF _ _) trivial
    case behind =>
     intro xv W hW hx;replace VY:=QA (VY.out.later hW)
     rename World=>WX
     clear hx hW BH;have dI:Hid (G5 z l=.ok (Vg (((Lr++[⟨nk,nx,ny,nc⟩])++Lb)++Lc)) lc):=by show _=_;rw[QL.out,←MJ.out,kZ,show Qo (⟨nk,nx,ny,nc⟩:Nd) (Vg (Lb++Lc))=Vg (⟨nk,nx,ny,nc⟩::(Lb++Lc))from rfl,kZ];simp
     obtain⟨Le,eu⟩:=Mem.ZB (((Lr++[⟨nk,nx,ny,nc⟩])++Lb)++Lc);rw[eu]at dI VY;clear eu QL MJ;obtain⟨aE,cE,rfl,-,-⟩:=VY.out.YK.own.slice;have hbc:WX.cell? ⟨w.heap.size+1+1,0,none⟩=some (ς aE Le.length cE):=VY.out.YK.box.cell;have ZL:Hid (Fs WX (Mi (w.heap.size+3) WX.heap.size) (ς aE Le.length cE) (Vg Le)):=V7.fs VY.out.YK.own (fun b hb=>⟨hb.1,hb.2.1⟩) (fun g e=>⟨(VY.out.YK.lo g e).1,VY.out.YK.own.lt e⟩);go_wp2_with fail;refine c₁ (Qu 1 ⟨#[]⟩ aE Le.length cE WX) fun W5 hb=>?_;have Po:=QA (Q7 (Zc ZL.out hb (QH _)) (QH _) hb.size);have QK:=QA (VY.out.bx.later hb);have YX:=QA (VY.out.YK.ps.later hb);have GA:=QA (VY.out.QS.ZN hb);obtain⟨g0,g1,g2,g3⟩:=QK.out.VD;obtain⟨b0,b1,b2,b3⟩:=QK.out.cells;unfold e0;clear hbc hb VY;go_wp2;refine bodyPost_ret (results_cell_row rfl _ _ (w.heap.size+1) 24 _ (0,0) _ rfl (QK.out.ZT _ _ _ _) Tryz.underlying24 rfl Q8) rfl ?_;exact Ad (by rw[rP dI.out];rfl) (Gx Le).symm (V4 Po.out (.inl (by omega)) _ _ _ _) (by omega) (by rw[Z2];exact QH _) (Va YX.out (by omega) _ _ _ _) ((((GA.out.set (.inr (Nat.le_succ _)) _).set (.inr (Nat.le_succ _)) _).set (.inr (Nat.le_succ _)) _).set (.inr (Nat.le_succ _)) _)
