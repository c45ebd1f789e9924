import Derived.Test.YtmepekognmlblaaGreatDoorS43
set_option maxHeartbeats 64000000
set_option maxRecDepth 100000
set_option linter.unusedVariables false
open Go.ChangeShapes Go.WideShapes Go.ChangeAt Go.RowKit
open Go.Lib renaming hid→QA
open _root_.Nat renaming lt_of_lt_of_le→VE,le_trans→QW
open _root_.List renaming getElem?_eq_getElem→QN,getD_eq_getElem?_getD→QX
open Go.World renaming cell?_of_block→JW
open Go.Value renaming int→ι,slice→ς,pointer→π,bool→τ,agg→ξ
open Go.IntKind renaming i64→γ
open Go.Obj renaming cells→θ
open Go.Ending renaming returned→ρ
namespace Go.Proofs.YtmepekognmlblaaGreatDoor
namespace Match
open Mem Tree Shape
variable {w:World}{S:Nat→Prop}{g gA gB:Nat}{a b:Sd}{M:St}
theorem Qgo(h:MS w S g gA gB a b M)(hf:Fit a b)(hi:Inv a b M)(h0:QQ M.1 0=false) :
 Calls Tryz.prog 31 #[π (some ⟨g,0,none⟩)] w (Js S g gA gB a b w (Y9 a b M)):=by
 have JL:=QA h;have HF:=QA hf;have uI:=QA (LC.start hf.nums hi);have QS:Hid (∀q,q<a.n→QQ M.1 ((Q3 a M.1).getD q 0)=false):=fun q hq=>Qk7 hf.nums.EG h0 hq
 have rX:Hid (∀q,(Q3 a M.1).getD q 0<a.n):=fun q=>į hf.nums.EG q
 have uo:=QA hi.part;have Sn:Hid (gA<w.heap.size∧gB<w.heap.size):=by
  constructor
  ·rcases Nat.lt_or_ge gA w.heap.size with h1|h1
   ·exact h1
   ·have:=h.mA;rw[Array.getElem?_eq_none h1]at this;cases this
  ·rcases Nat.lt_or_ge gB w.heap.size with h1|h1
   ·exact h1
   ·have:=h.mB;rw[Array.getElem?_eq_none h1]at this;cases this
 have Iq:Hid ((Q3 a M.1).length=a.n):=by show _=_;rw[←Jf];exact Zz (Nat.le_refl _)
 have uu:Hid ((Q3 b M.2).length=b.n):=by show _=_;rw[←Jf];exact Zz (Nat.le_refl _)
 have HV0:=QA (Qor h hf);clear h hf hi h0;go_enter Tryz.func31,Tryz.ntmps31;go_wp2
 go_step3
 go_wp2_with fail;refine HV0.out.mono ?_;rintro e w1 ⟨hb1,v0,rfl,r0⟩;have Z':=QA hb1;have P':=QA r0;have HV1:=QA (Qoq (JL.out.later hb1) HF.out);clear hb1 r0 HV0;go_wp2_with fail;refine HV1.out.mono ?_;rintro e w2 ⟨hb2,v1,rfl,r1⟩;have XC:=VO Z' hb2;have VN:=P'.out.later (fun k hk=>hk.2) hb2;obtain⟨ga,oa,Ca,rfl,_⟩:=VN.at_ (i:=0) (by rw[Iq.out];exact HF.out.nums.EG.pos);obtain⟨gb,ob,Cb,rfl,_⟩:=r1.at_ (i:=0) (by rw[uu.out];exact HF.out.nums.Hq.pos);have Ip:=QA (show Qu w2 (In w.heap.size w2.heap.size) (ς (some ⟨ga,oa,none⟩) (Q3 a M.1).length Ca) (Q3 a M.1)by
  obtain⟨A,C,e,q1,q2,q3⟩:=VN;refine⟨A,C,e,q1,q2,?_⟩;rcases q3 with q3|⟨b',o',e1,q4,q5⟩
  ·exact .inl q3
  ·exact .inr ⟨b',o',e1,⟨q4.1,VE q4.2 hb2.size⟩,q5⟩)
 have Io:=QA (show Qu w2 (In w.heap.size w2.heap.size) (ς (some ⟨gb,ob,none⟩) (Q3 b M.2).length Cb) (Q3 b M.2)by
  obtain⟨A,C,e,q1,q2,q3⟩:=r1;refine⟨A,C,e,q1,q2,?_⟩;rcases q3 with q3|⟨b',o',e1,q4,q5⟩
  ·exact .inl q3
  ·exact .inr ⟨b',o',e1,⟨QW Z'.out.size q4.1,q4.2⟩,q5⟩)
 rw[Iq.out]at Ip⊢;rw[uu.out]at Io⊢;clear VN r1 hb2 HV1 P' Z'
 go_upto_region 1 with(fail)
 have JF:=Qz w2 (θ #[ς (some ⟨ga,oa,none⟩) a.n Ca,ς (some ⟨gb,ob,none⟩) b.n Cb] 58);have Nx:=(QH.nil w2).box (e:=58) (sz:=2) #[ς (some ⟨ga,oa,none⟩) a.n Ca,ς (some ⟨gb,ob,none⟩) b.n Cb] 1 (by unfold maxLen;omega) rfl;have x0:=Nx.cell (i:=0) rfl (j:=0) rfl;have x1:=Nx.cell (i:=0) rfl (j:=1) rfl;have VG:=VO XC JF;have ub:=QA (Ip.out.later (fun k hk=>hk.2) JF);have qP:=QA (Io.out.later (fun k hk=>hk.2) JF);have LH:Hid (w2.heap.size<(w2.alloc (θ #[ς (some ⟨ga,oa,none⟩) a.n Ca,ς (some ⟨gb,ob,none⟩) b.n Cb] 58)).heap.size):=by show _<_;simp
 generalize w2.alloc (θ #[ς (some ⟨ga,oa,none⟩) a.n Ca,ς (some ⟨gb,ob,none⟩) b.n Cb] 58)=w3 at *;have HG2:Hid (w.heap.size≤w2.heap.size):=XC.out.size;clear Ip Io JF Nx XC;generalize w2.heap.size=g2 at *;have HX:=QA (And.intro x0 x1);have vT:=QA (Qn4 (T:=In w.heap.size g2) (JL.out.later VG.out) HF.out qP.out (fun k hk=>Nat.lt_trans hk.2 LH.out));go_wp2_with fail;refine vT.out.mono ?_;rintro e w4 ⟨hb4,gm,rfl,hsp⟩;have KF:=VO VG hb4;have qH:=QA hsp;have oQ:=QA (And.intro ((hb4.cell LH.out).trans x0) ((hb4.cell LH.out).trans x1));have qQ:=QA (ub.out.later (fun k hk=>Nat.lt_trans hk.2 LH.out) hb4);have qO:=QA (qP.out.later (fun k hk=>Nat.lt_trans hk.2 LH.out) hb4);have za:Hid (g2<w4.heap.size):=VE LH.out hb4.size;have ze:=QA (Qsx (JL.out.later KF.out) HF.out);clear hb4 hsp vT x0 x1 HX ub qP;go_wp2
 go_step3
 go_wp2_with fail;refine ze.out.mono ?_;rintro e w5 ⟨Y',vl,rfl,rl⟩;have LO:=VO KF Y';have NQ:=QA rl;have yQ:Hid (w5.cell? ⟨g2,0,none⟩=some (ς (some ⟨ga,oa,none⟩) a.n Ca)∧w5.cell? ⟨g2,1,none⟩=some (ς (some ⟨gb,ob,none⟩) b.n Cb)):=⟨(Y'.cell za.out).trans oQ.out.1,(Y'.cell za.out).trans oQ.out.2⟩
 have uv:Hid (∀q,q<a.n→w5.cell? ⟨ga,oa+q,none⟩=some (ι γ (((Q3 a M.1).getD q 0:Nat):Int))):=fun q hq=>by
  obtain⟨g',o',C',e',h1⟩:=qQ.out.at_ (i:=q) (by rw[Iq.out];exact hq);exact c73
 have ur:Hid (∀q,q<b.n→w5.cell? ⟨gb,ob+q,none⟩=some (ι γ (((Q3 b M.2).getD q 0:Nat):Int))):=fun q hq=>by
  obtain⟨g',o',C',e',h1⟩:=qO.out.at_ (i:=q) (by rw[uu.out];exact hq);exact c73
 have Hj:Hid ((w.heap.size≤ga∧ga<w5.heap.size)∧(w.heap.size≤gb∧gb<w5.heap.size)∧(w.heap.size≤g2∧g2<w5.heap.size)):=by
  have l5:g2<w5.heap.size:=VE za.out Y'.size;refine⟨?_,?_,HG2.out,l5⟩
  ·obtain⟨A,C,e',_,_,q3⟩:=qQ.out;rcases q3 with q3|⟨b',o',e1,q4,_⟩
   ·have:=congrArg List.length q3;simp[ints,Iq.out]at this;have:=HF.out.nums.EG.pos;omega
   ·exact c92
  ·obtain⟨A,C,e',_,_,q3⟩:=qO.out;rcases q3 with q3|⟨b',o',e1,q4,_⟩
   ·have:=congrArg List.length q3;simp[ints,uu.out]at this;have:=HF.out.nums.Hq.pos;omega
   ·exact c92
 have zD:Hid (w.heap.size≤w3.heap.size∧w3.heap.size≤w4.heap.size∧w4.heap.size≤w5.heap.size∧∀k,k<w4.heap.size→w5.heap[k]?=w4.heap[k]?):=⟨VG.out.size,by have:=qH.out;obtain⟨_,_,_,_,_,_,_,hr⟩:=this;have:=hr.lt;omega,Y'.size,fun k hk=>Y'.block k hk⟩;have YB:Hid ((QB gA gB w w5∧MS w5 S g gA gB a b M)∧LC a b (Q3 a M.1) (Q3 b M.2) (Xd b M.2 (Q3 b M.2)) M (J7 a (Jt a M.1)) M 0):=⟨⟨QB.of_below LO.out,JL.out.later LO.out⟩,uI.out⟩;have Rc:Hid ((J7 a (Jt a M.1)).length≤20000):=by show _≤_;rw[(iK a _ (Qd9 a M.1)).1.length_eq];unfold Jt;exact QW (List.length_filter_le _ _) (by rw[List.length_range];exact HF.out.na)
 have XB:Hid (∀M',LC a b (Q3 a M.1) (Q3 b M.2) (Xd b M.2 (Q3 b M.2)) M (J7 a (Jt a M.1)) M' (J7 a (Jt a M.1)).length→M'=Y9 a b M):=fun M' h=>h.done
 have qI:=QA (Qq7 b M.2 (Q3 b M.2))
 have ua:Hid (∀o m,(Xd b M.2 (Q3 b M.2) o m).length≤40000):=fun o m=>by
  rw[←Qun];have:=Û (s:=b) (M:=M.2) (ov:=Q3 b M.2) (c:=2) (k:=(o,m)) (i:=0) (Nat.zero_le _);have:=HF.out.nb;omega
 clear rl Y' ze qQ qO oQ JL uI VG KF;obtain⟨oA,F4⟩:=Mem.QD (Q3 a M.1);obtain⟨oB,F3⟩:=Mem.QD (Q3 b M.2);have Ba:Hid (∀o m:Nat,o<b.n→m<1000000→∃v,(∀W:World,(∀k,w3.heap.size≤k→k<w4.heap.size→W.heap[k]?=w4.heap[k]?)→(Instr.lookup 78 (.map (some gm)) (ξ #[ι γ (o:Int),ι γ (m:Int)]) false).run Tryz.prog W=.ok v W)∧Qu w4 (In w3.heap.size w4.heap.size) v (Xd b M.2 (Q3 b M.2) o m)):=fun o m h1 h2=>qH.out.look h1 h2 HF.out.nb
 obtain⟨sp,hsp⟩:=Mem.QD (Xd b M.2 (Q3 b M.2));rw[hsp]at YB XB qI Ba ua;rw[F4]at YB XB QS rX uv;rw[F3]at YB XB ur;obtain⟨l,hl⟩:=Mem.QD (J7 a (Jt a M.1));rw[hl]at YB XB NQ Rc;obtain⟨nl,hnl⟩:=Mem.QD (l.length);have TU:=QA hnl;have Wu:nl≤20000:=by rw[←hnl];exact Rc.out
 have TW:Hid (Y9 a b M=Y9 a b M):=rfl;obtain⟨Al,Cl,rfl,_,_⟩:=NQ.out.slice;rw[hnl]at NQ XB⊢;clear hsp F4 F3 hl hnl qH Iq uu Rc;obtain⟨an,Oq⟩:=Mem.QD (a.n);obtain⟨bn,UJ⟩:=Mem.QD (b.n);have IK:=QA Oq;have Rf:=QA UJ;have Q1v:an≤20000:=by rw[←Oq];exact HF.out.na
 have Q1t:bn≤20000:=by rw[←UJ];exact HF.out.nb
 rw[Oq]at yQ⊢;rw[UJ]at yQ⊢;clear Oq UJ;generalize hlm:Y9 a b M=ML at *;go_wp2
 go_loopg [21] nl (fun gh BQ wr=>∃(k:Nat)(M':St),k+gh=nl∧BQ=ι γ (k:Int)∧Hid ((QB gA gB w wr∧MS wr S g gA gB a b M'∧QB gA gB w5 wr)∧LC a b oA oB sp M l M' k))
 case atStart=>exact⟨0,M,ω,rfl,⟨YB.out.1.1,YB.out.1.2,QB.refl _ _ _⟩,YB.out.2⟩
 case round =>
  clear YB;obtain⟨k,M',hkg,rfl,HT⟩:=hrel;cases gk with
  |zero =>
   have hkz:¬(k:Int)<(nl:Int):=ω
   obtain rfl:k=nl:=ω
   have HE:Hid (M'=ML):=XB.out M' HT.out.2;go_wp2;try rw[Exit.noGoto_ret]
   go_end0
   rw[←HE.out];exact⟨rfl,HT.out.1.1,HT.out.1.2.1⟩
  |succ gg =>
   have hkz:(k:Int)<(nl:Int):=ω
   have ZW:(0:Int)≤(k:Int):=ω
   have hkl:k<l.length:=by rw[TU.out];omega
   have ji:=QA hkl;obtain⟨x,hx⟩:=Mem.QD (l.getD k 0);have HX:=QA hx;have Bk:x<a.n:=by rw[←hx];exact HT.out.2.lt hkl
   have rO:=QA Bk;have Rs:Hid (∀q,w.heap.size≤q→q<w5.heap.size→wr.heap[q]?=w5.heap[q]?):=fun q h1 h2=>HT.out.1.2.2.block q h2 (by have:=Sn.out;omega) (by have:=Sn.out;omega)
   obtain⟨A',C',er,_,_,q3⟩:=NQ.out;rcases q3 with q3|⟨gr,or_,e1,q4,q5⟩
   ·exfalso;have:=congrArg List.length q3;simp[ints]at this;rw[this]at hkl;simp at hkl
   injection er with dP lX dO;subst dP;rw[TU.out]at lX;subst e1;have d1:=(JW (w:=w5) (Rs.out gr (by have:=q4.1;have:=zD.out;omega) q4.2) (a:=⟨gr,or_+k,none⟩)).trans (q5 k _ (ints_at (v:=x) (by rw[←hx,QX,QN hkl];rfl)));have Hk:=QA (Gv HT.out.1.2.1 x Bk);obtain⟨fr,XM⟩:=Mem.QD (QQ M'.1 x);have TX:=QA XM;rw[XM]at Hk;clear XM hx lX dO q4 q5 hkl;go_wp2_with fail;refine Hk.out.mono ?_;rintro e w6 ⟨rfl,qd,GS⟩;have LG:Hid ((QB gA gB w w6∧MS w6 S g gA gB a b M'∧QB gA gB w5 w6)∧LC a b oA oB sp M l M' k):=by rw[GS];exact⟨⟨HT.out.1.1.trans (QB.drewN _ _),HT.out.1.2.1.drewN _,HT.out.1.2.2.trans (QB.drewN _ _)⟩,HT.out.2⟩
   clear GS Hk d1 HT Rs;cases fr with
   |false =>
    have Tv:Hid ((QB gA gB w w6∧MS w6 S g gA gB a b M'∧QB gA gB w5 w6)∧LC a b oA oB sp M l M' (k+1)):=⟨LG.out.1,LG.out.2.skip ji.out (by rw[HX.out];exact TX.out)⟩;clear LG;go_wp2
    go_roundg gg
    case measure=>omega
    case rel=>exact⟨k+1,M',ω,by go_num,Tv⟩
   |true =>
    have Rs:Hid (∀q,w.heap.size≤q→q<w5.heap.size→w6.heap[q]?=w5.heap[q]?):=fun q h1 h2=>LG.out.1.2.2.block q h2 (by have:=Sn.out;omega) (by have:=Sn.out;omega)
    have hm:=LG.out.1.2.1;obtain⟨gP,oP,CP,p1,p2⟩:=hm.ro.pa.parent Bk;have p1:w6.cell? ⟨g,1,none⟩=some (ς (some ⟨gP,oP,none⟩) a.n CP):=by have:=p1;rw[Nat.zero_add]at this;exact this
    obtain⟨pz,CF⟩:=Mem.QD (a.par.getD x 0);obtain⟨ox,zR⟩:=Mem.QD (oA.getD x 0);obtain⟨ik,hik⟩:=Mem.QD (Va a oA x);have OY:=QA hik;have e1:(pz==(ox:Int))=ik:=by
     rw[←hik];unfold Va;rw[CF,zR];by_cases e:pz=(ox:Int)
     ·simp[e]
     ·simp[e]
    rw[CF]at p2;have b0:=(JW (w:=w5) (Rs.out g2 Hj.out.2.2.1 Hj.out.2.2.2) (a:=⟨g2,0,none⟩)).trans yQ.out.1;have b1:=(JW (w:=w5) (Rs.out g2 Hj.out.2.2.1 Hj.out.2.2.2) (a:=⟨g2,1,none⟩)).trans yQ.out.2;have o1:=(JW (w:=w5) (Rs.out ga Hj.out.1.1 Hj.out.1.2) (a:=⟨ga,oa+x,none⟩)).trans (uv.out x Bk);rw[zR]at o1;have Wi:ox<a.n:=by rw[←zR];exact rX.out x
    obtain⟨y0,hy0⟩:∃y0,Pd M.1 ox y0:=uo.out.Rw Wi (by rw[←zR];exact QS.out x Bk);have ki:=(uo.out.lt hy0).2;have hz:M'.1.getD ox 0=((y0:Nat):Int):=by have:=LG.out.2.ext.1 _ _ hy0;unfold Pd at this;rw[QX,this];rfl
    obtain⟨CA,c1⟩:=hm.cA;obtain⟨m1,_⟩:=X4 hm.mA (x:=ox) (by rw[hm.lA];exact Wi);rw[hz]at m1;obtain⟨gM,oM,CM,A0,C0,A1,C1,n1,n2,_,r0,_⟩:=hm.ro.Nj.two;obtain⟨gN,oN,rfl,_,n3⟩:=r0.at_ (ints_at (Jo HF.out.la Bk));rw[HF.out.la,IK.out]at n2;obtain⟨mx,hmx⟩:=Mem.QD (a.no x);rw[hmx]at n3;have kS:mx<1000000:=by rw[←hmx];exact HF.out.fa _ (List.mem_of_getElem? (Jo HF.out.la Bk))
    obtain⟨vy,hlk,nT⟩:=Ba.out y0 mx ki kS;have hlk2:∀q,(Instr.lookup 78 (.map (some gm)) (ξ #[ι γ (y0:Int),ι γ (mx:Int)]) false).run Tryz.prog (w6.drewN q)=.ok vy (w6.drewN q):=fun q=>hlk _ (fun k h1 h2=>(Rs.out k (by have:=zD.out;omega) (by have:=zD.out;omega)).trans (zD.out.2.2.2 k h2))
    obtain⟨Ay,Cy,rfl,_,_⟩:=nT.slice;have aa:=QA nT;obtain⟨ys,hys⟩:=Mem.QD (sp y0 mx);rw[hys]at aa hlk2;obtain⟨ny,Oc⟩:=Mem.QD (ys.length);have BG:=QA Oc;rw[Oc]at hlk2 aa;have HYB:Hid (∀y∈ys,y<b.n∧b.no y=mx):=fun y hy=>qI.out y0 mx y (by rw[hys];exact hy)
    have DT:Hid (∀M2,Ys a b oA oB x M' ys=M2→LC a b oA oB sp M l M2 (k+1)):=fun M2 h2=>LG.out.2.step HF.out.nums qI.out ji.out (by rw[HX.out];exact TX.out) (ys:=ys) (by rw[HX.out,zR,hz,hmx];exact hys) (by rw[HX.out];exact h2)
    have Q06:ny≤40000:=by rw[←Oc,←hys];exact ua.out y0 mx
    rw[IK.out]at p1 c1;have Q13:(x:Int)<(an:Int):=by have:=IK.out;omega
    have hx0:(0:Int)≤(x:Int):=ω
    have Q2b:(ox:Int)<(an:Int):=by have:=IK.out;omega
    have Q2c:(0:Int)≤(ox:Int):=ω
    clear hm CF zR hik Wi hy0 ki hz r0 hmx kS hlk nT hys Oc;go_wp2
    go_quiet (fail)
    go_wp2
    go_quiet (fail)
    go_wp2
    go_loopg [69] ny (fun g3 s69 wr=>∃j:Nat,j+g3=ny∧s69=ι γ (j:Int)∧Hid ((QB gA gB w wr∧MS wr S g gA gB a b M'∧QB gA gB w5 wr)∧Ys a b oA oB x M' (ys.drop j)=Ys a b oA oB x M' ys))
    case atStart=>exact⟨0,ω,rfl,⟨(LG.out.1.1.trans (QB.drewN _ _)).trans (QB.drewN _ _),(LG.out.1.2.1.drewN _).drewN _,(LG.out.1.2.2.trans (QB.drewN _ _)).trans (QB.drewN _ _)⟩,rfl⟩
    case round =>
     clear LG Rs p1 p2 b0 b1 o1 c1 m1 n1 n2 n3 hlk2 e1;obtain⟨j,hjg,rfl,HI⟩:=hrel;cases gk with
     |zero =>
      have hjz:¬(j:Int)<(ny:Int):=ω
      have ux:Hid ((QB gA gB w wr∧MS wr S g gA gB a b M'∧QB gA gB w5 wr)∧LC a b oA oB sp M l M' (k+1)):=⟨HI.out.1,DT.out M' (by rw[←HI.out.2,List.drop_eq_nil_of_le (by rw[BG.out];omega)];rfl)⟩;clear HI;go_wp2
      go_roundg gg
      case measure=>omega
      case rel=>exact⟨k+1,M',ω,by go_num,ux⟩
     |succ g3 =>
      have hjz:(j:Int)<(ny:Int):=ω
      have Mf:(0:Int)≤(j:Int):=ω
      have hjl:j<ys.length:=by rw[BG.out];omega
      have sG:=QA hjl;obtain⟨y,hy⟩:=Mem.QD (ys.getD j 0);have HY:=QA hy;have kf:y<b.n:=(HYB.out y (by rw[←hy,QX,QN hjl];exact List.getElem_mem _)).1;have Ig:=QA kf;have Rs:Hid (∀q,w.heap.size≤q→q<w5.heap.size→wr.heap[q]?=w5.heap[q]?):=fun q h1 h2=>HI.out.1.2.2.block q h2 (by have:=Sn.out;omega) (by have:=Sn.out;omega)
      obtain⟨A',C',er,_,_,q3⟩:=aa.out;rcases q3 with q3|⟨gy,oy_,e1,q4,q5⟩
      ·exfalso;have:=congrArg List.length q3;simp[ints]at this;rw[this]at hjl;simp at hjl
      injection er with dP lX dO;subst dP;subst e1;have d1:=(JW (w:=w4) ((Rs.out gy (by have:=q4.1;have:=zD.out;omega) (by have:=q4.2;have:=zD.out;omega)).trans (zD.out.2.2.2 gy q4.2)) (a:=⟨gy,oy_+j,none⟩)).trans (q5 j _ (ints_at (v:=y) (by rw[←hy,QX,QN hjl];rfl)));have hm:=HI.out.1.2.1;have Be:Hid (∀q,Calls Tryz.prog 49 #[π (some ⟨g,0,none⟩),ι γ 1,ι γ (y:Int)] (wr.drewN q) fun e w'=>e=ρ (τ (QQ M'.2 y))∧∃q',w'=(wr.drewN q).drewN q'):=fun q=>Gu (hm.drewN q) y kf
      obtain⟨gP,oP,CP,N6,p2⟩:=hm.ro.pb.parent kf;have p1:wr.cell? ⟨g,5,none⟩=some (ς (some ⟨gP,oP,none⟩) bn CP):=by rw[←Rf.out];exact N6
      obtain⟨pz,CF⟩:=Mem.QD (b.par.getD y 0);obtain⟨oy,mE⟩:=Mem.QD (oB.getD y 0);obtain⟨M4,WA⟩:=Mem.QD (Va b oB y);have IA:=QA WA;have e2:(pz==(oy:Int))=M4:=by
       rw[←WA];unfold Va;rw[CF,mE];by_cases e:pz=(oy:Int)
       ·simp[e]
       ·simp[e]
      rw[CF]at p2;have b1:=(JW (w:=w5) (Rs.out g2 Hj.out.2.2.1 Hj.out.2.2.2) (a:=⟨g2,1,none⟩)).trans yQ.out.2;have o1:=(JW (w:=w5) (Rs.out gb Hj.out.2.1.1 Hj.out.2.1.2) (a:=⟨gb,ob+y,none⟩)).trans (ur.out y kf);rw[mE]at o1;obtain⟨fr2,WE⟩:=Mem.QD (QQ M'.2 y);have IG:=QA WE;rw[WE]at Be;have Fh:(y:Int)<(bn:Int):=by have:=Rf.out;omega
      have hy0:(0:Int)≤(y:Int):=ω
      clear hm hy kf q4 q5 lX dO hjl N6 CF mE WA WE Rs;cases fr2 with
      |false =>
       have ux:Hid (∀q,(QB gA gB w (wr.drewN q)∧MS (wr.drewN q) S g gA gB a b M'∧QB gA gB w5 (wr.drewN q))∧Ys a b oA oB x M' (ys.drop (j+1))=Ys a b oA oB x M' ys):=fun q=>⟨⟨HI.out.1.1.trans (QB.drewN _ _),HI.out.1.2.1.drewN _,HI.out.1.2.2.trans (QB.drewN _ _)⟩,by rw[←HI.out.2];exact(ń sG.out (by rw[HY.out,IG.out,OY.out,IA.out];rfl)).symm⟩
       clear HI;go_wp2
       go_quiet ((refine(Be.out _).mono ?_;rintro e w9 ⟨he,m9,JC⟩;exact⟨he,_,by rw[JC,World.drewN_drewN]⟩))
       go_wp2
       go_roundg g3
       case measure=>omega
       case rel=>exact⟨j+1,ω,by go_num,ux.out _⟩
      |true =>
       cases ik with
       |true =>
        have EO:Hid (∀q,Calls Tryz.prog 27 #[π (some ⟨g,0,none⟩),ι γ (x:Int),ι γ (y:Int)] (wr.drewN q) (Js S g gA gB a b (wr.drewN q) (QK a b M' x y))):=fun q=>J9 (HI.out.1.2.1.drewN q) HF.out x y rO.out Ig.out
        have zf:Hid (LC a b oA oB sp M l (QK a b M' x y) (k+1)):=DT.out _ (by rw[←HI.out.2,Ņ sG.out (by rw[HY.out,IG.out,OY.out,IA.out];rfl),HY.out]);have OL:Hid (∀q,QB gA gB w (wr.drewN q)∧QB gA gB w5 (wr.drewN q)):=fun q=>⟨HI.out.1.1.trans (QB.drewN _ _),HI.out.1.2.2.trans (QB.drewN _ _)⟩
        clear HI;go_wp2
        go_quiet ((refine(Be.out _).mono ?_;rintro e w9 ⟨he,m9,JC⟩;exact⟨he,_,by rw[JC,World.drewN_drewN]⟩))
        go_wp2_with fail;refine(EO.out _).mono ?_;rintro e w9 ⟨rfl,La,JC⟩;have aX:Hid ((QB gA gB w w9∧MS w9 S g gA gB a b (QK a b M' x y)∧QB gA gB w5 w9)∧LC a b oA oB sp M l (QK a b M' x y) (k+1)):=⟨⟨(OL.out _).1.trans La,JC,(OL.out _).2.trans La⟩,zf.out⟩;clear La JC;go_wp2
        go_roundg gg
        case measure=>omega
        case rel=>exact⟨k+1,_,ω,by go_num,aX⟩
       |false =>
        cases M4 with
        |true =>
         have EO:Hid (∀q,Calls Tryz.prog 27 #[π (some ⟨g,0,none⟩),ι γ (x:Int),ι γ (y:Int)] (wr.drewN q) (Js S g gA gB a b (wr.drewN q) (QK a b M' x y))):=fun q=>J9 (HI.out.1.2.1.drewN q) HF.out x y rO.out Ig.out
         have zf:Hid (LC a b oA oB sp M l (QK a b M' x y) (k+1)):=DT.out _ (by rw[←HI.out.2,Ņ sG.out (by rw[HY.out,IG.out,OY.out,IA.out];rfl),HY.out]);have OL:Hid (∀q,QB gA gB w (wr.drewN q)∧QB gA gB w5 (wr.drewN q)):=fun q=>⟨HI.out.1.1.trans (QB.drewN _ _),HI.out.1.2.2.trans (QB.drewN _ _)⟩
         clear HI;go_wp2
         go_quiet ((refine(Be.out _).mono ?_;rintro e w9 ⟨he,m9,JC⟩;exact⟨he,_,by rw[JC,World.drewN_drewN]⟩))
         go_wp2_with fail;refine(EO.out _).mono ?_;rintro e w9 ⟨rfl,La,JC⟩;have aX:Hid ((QB gA gB w w9∧MS w9 S g gA gB a b (QK a b M' x y)∧QB gA gB w5 w9)∧LC a b oA oB sp M l (QK a b M' x y) (k+1)):=⟨⟨(OL.out _).1.trans La,JC,(OL.out _).2.trans La⟩,zf.out⟩;clear La JC;go_wp2
         go_roundg gg
         case measure=>omega
         case rel=>exact⟨k+1,_,ω,by go_num,aX⟩
        |false =>
         have ux:Hid (∀q,(QB gA gB w (wr.drewN q)∧MS (wr.drewN q) S g gA gB a b M'∧QB gA gB w5 (wr.drewN q))∧Ys a b oA oB x M' (ys.drop (j+1))=Ys a b oA oB x M' ys):=fun q=>⟨⟨HI.out.1.1.trans (QB.drewN _ _),HI.out.1.2.1.drewN _,HI.out.1.2.2.trans (QB.drewN _ _)⟩,by rw[←HI.out.2];exact(ń sG.out (by rw[HY.out,IG.out,OY.out,IA.out];rfl)).symm⟩
         clear HI;go_wp2
         go_quiet ((refine(Be.out _).mono ?_;rintro e w9 ⟨he,m9,JC⟩;exact⟨he,_,by rw[JC,World.drewN_drewN]⟩))
         go_wp2
         go_roundg g3
         case measure=>omega
         case rel=>exact⟨j+1,ω,by go_num,ux.out _⟩
