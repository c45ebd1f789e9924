import Derived.Test.YtmepekognmlblaaGreatDoorS31
import Derived.DeepKeys4
import Derived.WideKeyEntry
set_option maxHeartbeats 16000000
set_option maxRecDepth 100000
set_option linter.unusedVariables false
open Go.ChangeShapes Go.WideShapes Go.ChangeAt Go.RowKit Go.Proofs.Tryz
open Go.Lib renaming hid→QA
open _root_.Nat renaming le_refl→QI,le_trans→QW,zero_le→ZR
open _root_.List renaming getElem?_eq_getElem→QN,getD_eq_getElem?_getD→QX,mem_of_getElem?→JK
open Go.World renaming block_lt_of_cell?→VJ,cell?_of_block→JW
open Go.Value renaming string→σ,int→ι,slice→ς,pointer→π,bool→τ,agg→ξ
open Go.IntKind renaming i64→γ
open Go.Obj renaming cells→θ
open Go.Ending renaming returned→ρ
namespace Go.Proofs.YtmepekognmlblaaGreatDoor
namespace Match
open Mem Tree Shape
def yj:Option Ky→Value
 |none=>ξ #[ι γ 0,σ .empty,ι γ 0]
 |some (k,x,r)=>ξ #[ι γ k,σ x,ι γ r]
def fo(w:World)(o:Option Ky)(e:Ending)(w':World):Prop:=Below w.heap.size w w'∧e=ρ (.tuple #[yj o,τ o.isSome])
theorem Qsu(W:World)(g:Nat)(k r:Int)(x:ByteArray)(h0:W.cell? ⟨g,0,none⟩=some (ι γ k))(h1:W.cell? ⟨g,1,none⟩=some (σ x))(h2:W.cell? ⟨g,2,none⟩=some (ι γ r)) :
 (loadVar 73 ⟨g,0,none⟩).run Tryz.prog W=.ok (ξ #[ι γ k,σ x,ι γ r]) W:=by
 go_simp
theorem ZY.other{W:World}{g g':Nat}{e:TypeId}{xs:List Value}(h:ZY W g e xs)(hne:g≠g')(j:Nat)(v:Value):ZY (W.setCell ⟨g',j,none⟩ v) g e xs:=by
 show(W.setCell ⟨g',j,none⟩ v).heap[g]?=_;rw[Below.heap_setCell _ _ _ _ (show g≠g' from hne)];exact h
def Kr(s:Sd)(q i:Nat):Int:=((s.kid q).take i).foldl (fun _ q=>((s.no q:Nat):Int)) (-1)
theorem Qdc{s:Sd}{q i:Nat}(h:i<(s.kid q).length):Kr s q (i+1)=((s.no ((s.kid q).getD i 0):Nat):Int):=by
 unfold Kr;rw[List.take_add_one,QN h,QX,QN h,List.foldl_append];rfl
theorem Xz{w W:World}{v0 v1 v2:Value}(hb:Below w.heap.size w W)(hx:ZY W w.heap.size 73 [v0,v1,v2])(k r:Int)(x:ByteArray) :
 Below w.heap.size w (((W.setCell ⟨w.heap.size,0,none⟩ (ι γ k)).setCell ⟨w.heap.size,1,none⟩ (σ x)).setCell ⟨w.heap.size,2,none⟩ (ι γ r))∧
 (loadVar 73 ⟨w.heap.size,0,none⟩).run Tryz.prog (((W.setCell ⟨w.heap.size,0,none⟩ (ι γ k)).setCell ⟨w.heap.size,1,none⟩ (σ x)).setCell ⟨w.heap.size,2,none⟩ (ι γ r))=.ok (ξ #[ι γ k,σ x,ι γ r]) (((W.setCell ⟨w.heap.size,0,none⟩ (ι γ k)).setCell ⟨w.heap.size,1,none⟩ (σ x)).setCell ⟨w.heap.size,2,none⟩ (ι γ r)):=by
 have h1:=hx.set (i:=0) ψ (ι γ k);have h2:=h1.set (i:=1) ψ (σ x);have h3:=h2.set (i:=2) ψ (ι γ r);exact⟨Zn (Zn (Zn hb (QI _) _ _) (QI _) _ _) (QI _) _ _,Qsu _ _ k r x (h3.at_ (i:=0) rfl) (h3.at_ (i:=1) rfl) (h3.at_ (i:=2) rfl)⟩
variable {w:World}{S:Nat→Prop}{g gA gB:Nat}{a b:Sd}{M:St}
theorem ĥ(h:MS w S g gA gB a b M)(hf:Fit a b)(p:Nat)(hp:p<a.n)(h7:(a.at_ p).k=7→0<(a.kid p).length) :
 Calls Tryz.prog 44 #[π (some ⟨g,0,none⟩),ι γ 0,ι γ (p:Int)] w (fo w (keyOf a p)):=by
 have HP:=QA hp;have JL:=QA h;have HF:=QA hf;have H7:=QA h7;clear h hf hp h7;go_enter Tryz.func44,Tryz.ntmps44
 go_upto_region 1 with(fail)
 have hb1:=Qz w (θ #[ι γ 0,σ ⟨#[]⟩,ι γ 0] 73);have qG:Hid (ZY (w.alloc (θ #[ι γ 0,σ ⟨#[]⟩,ι γ 0] 73)) w.heap.size 73 [ι γ 0,σ ⟨#[]⟩,ι γ 0]):=heap_alloc_new w _;have EJ:=JL.out.later hb1;have Z':=QA hb1;generalize w.alloc (θ #[ι γ 0,σ ⟨#[]⟩,ι γ 0] 73)=w1 at *;obtain⟨gN,oN,CN,sl,c0,⟨n0,n1,n2,n3⟩,hk⟩:=EJ.ro.pa.node HP.out;obtain⟨As,Cs,rfl,_,_⟩:=hk.slice;have hp0:(0:Int)≤(p:Int):=ω
 have GZ:(p:Int)<(a.n:Int):=by have:=HP.out;omega
 obtain⟨m,hm⟩:=Mem.QD ((a.at_ p).c.len);obtain⟨k,hk⟩:=Mem.QD ((a.at_ p).k);obtain⟨x,hx⟩:=Mem.QD ((a.at_ p).x);obtain⟨y,hy⟩:=Mem.QD ((a.at_ p).y);have KA:=QA hk;have MB:=QA hx;rw[hk]at n0;rw[hx]at n1;rw[hy]at n2;rw[hm]at n3;clear hb1 EJ hk hx hy hm
 go_upto_region 2 with(fail)
 have hb2:=Qz w1 (θ #[ι γ k,σ x,σ y,ς As m Cs] 24);have DN:Hid (ZY (w1.alloc (θ #[ι γ k,σ x,σ y,ς As m Cs] 24)) w1.heap.size 24 [ι γ k,σ x,σ y,ς As m Cs]):=heap_alloc_new w1 _;have Tn:=QA (qG.out.keep hb2);have hsz1:w.heap.size<w1.heap.size:=qG.out.lt;have XC:=QA (Z'.out.trans (hb2.mono ω));generalize w1.alloc (θ #[ι γ k,σ x,σ y,ς As m Cs] 24)=w2 at *;generalize w1.heap.size=g8 at *;clear hb2 qG Z' c0 n0 n1 n2 n3;have k0:=DN.out.at_ (i:=0) rfl;have k1:=DN.out.at_ (i:=1) rfl
 go_upto_region 3 with(fail)
 have hb3:=Qz w2 (θ #[ι γ k,σ x,ι γ (-1)] 73);have Si:Hid (ZY (w2.alloc (θ #[ι γ k,σ x,ι γ (-1)] 73)) w2.heap.size 73 [ι γ k,σ x,ι γ (-1)]):=heap_alloc_new w2 _;have qF:=QA (DN.out.keep hb3);have JH:=QA (Tn.out.keep hb3);have LU:w.heap.size<w2.heap.size:=Tn.out.lt;have mb:g8<w2.heap.size:=DN.out.lt;have VG:=QA (XC.out.trans (hb3.mono ω));generalize w2.alloc (θ #[ι γ k,σ x,ι γ (-1)] 73)=w3 at *;generalize w2.heap.size=g9 at *;clear hb3 DN Tn XC k0 k1;have k0:=qF.out.at_ (i:=0) rfl;have r0:=Si.out.at_ (i:=0) rfl;have r1:=Si.out.at_ (i:=1) rfl;have r2:=Si.out.at_ (i:=2) rfl;have f0:=Si.out.free 0;have f1:=Si.out.free 1;have f2:=Si.out.free 2;have q0:=JH.out.at_ (i:=0) rfl;have q1:=JH.out.at_ (i:=1) rfl;have q2:=JH.out.at_ (i:=2) rfl;have e0:=JH.out.free 0;have e1:=JH.out.free 1;have e2:=JH.out.free 2;by_cases h2:k=2
 ·subst h2;have SE:Hid (keyOf a p=some (2,⟨#[]⟩,-1)):=by show _=_;unfold keyOf;rw[KA.out,if_pos rfl];rfl
  exact c32
 ·by_cases h7:k=7
  ·subst h7;have Nt:=JL.out.later VG.out;obtain⟨gK,oK,CK,A0,C0,j0,j1,_,_,j4⟩:=Nt.ro.pa.kids HP.out;have jY:w3.cell? ⟨g,3,none⟩=some (ς (some ⟨gK,oK,none⟩) a.n CK):=j0;obtain⟨gr,tT,rfl,_,hq⟩:=j4.at_ (ints_at (QN (H7.out KA.out)));obtain⟨q,Fq⟩:=Mem.QD ((a.kid p)[0]'(H7.out KA.out));rw[Fq,Nat.add_zero]at hq;have mC:q∈a.kid p:=by rw[←Fq];exact List.getElem_mem _
   have Ob:q<a.n:=Z1 q mC
   have aA:Hid (recv a p=(a.kid q).foldl (fun _ q=>((a.no q:Nat):Int)) (-1)):=by
    show _=_;unfold recv;rw[QX,QN (H7.out KA.out),Fq];rfl
   obtain⟨gL,oL,CL,A1,C1,l0,l1,l2,l3,l4⟩:=Nt.ro.pa.kids Ob;have MZ:w3.cell? ⟨g,3,none⟩=some (ς (some ⟨gL,oL,none⟩) a.n CL):=l0;rw[jY]at MZ;injection MZ with MZ;injection MZ with MX nC nB;injection MX with MX;injection MX with MX nu;subst MX;subst nu;obtain⟨ln,YO⟩:=Mem.QD ((a.kid p).length);obtain⟨lm,hlm⟩:=Mem.QD ((a.kid q).length);have TW:=QA hlm;have mN:(0:Int)<(ln:Int):=by have:=H7.out KA.out;omega
   have mO:lm≤20000:=by rw[←hlm];exact QW (Uw a q) HF.out.na
   rw[YO]at j1;rw[hlm]at l1;have hq0:(0:Int)≤(q:Int):=ω
   have mz:(q:Int)<(a.n:Int):=ω
   have Bb:Hid (Qu w3 S (ς A1 lm C1) (a.kid q)):=⟨A1,C1,by rw[hlm],l2,l3,l4⟩;have qE:Hid (ZY w3 g9 73 [ι γ 7,σ x,ι γ (Kr a q 0)]):=Si.out;have SE:Hid (keyOf a p=some (7,x,Kr a q lm)):=by show _=_;unfold keyOf Kr;rw[KA.out,MB.out,if_neg ω,if_neg ω,if_pos rfl,aA.out,←TW.out,List.take_length]
   clear Nt j0 j4 Fq l0 l2 l3 l4 YO hlm r0 r1 r2 f0 f1 f2 q0 q1 q2 e0 e1 e2 nC nB h2
   go_upto_region 13 with(fail)
   clear k0 jY j1 hq l1;obtain⟨gM,oM,CM,gN2,oN2,CN2,n1,n2,n3⟩:=(Ö (N:=1000000) (xs:=[]) (vx:=ς none 0 0) JL.out HF.out (fun _ h=>by cases h) ⟨none,0,rfl,QI _,by unfold maxLen;omega,.inl rfl⟩ (ZR _) (fun x hx=>HF.out.fa _ (JK (Jo HF.out.la hx)))).Nj;rw[Nat.add_zero]at n2;have qX:=QA n1;have BH:=QA n2;have Iu:=QA n3;clear n1 n2 n3
   go_loopw [63] (fun ju wr=>∃i:Nat,i≤lm∧ju=ι γ (i:Int)∧Hid (Below w.heap.size w wr∧QB g9 g9 w3 wr∧ZY wr g9 73 [ι γ 7,σ x,ι γ (Kr a q i)])) (fun s _=>lm-(intOf s).toNat)
   case atStart=>exact⟨0,ZR _,rfl,⟨VG.out,QB.refl _ _ _,qE.out⟩⟩
   case round =>
    obtain⟨i,hi,rfl,HK⟩:=hrel;have hne:w.heap.size≠g9:=ω
    have PY:Hid (ZY wr w.heap.size 73 [ι γ 0,σ ⟨#[]⟩,ι γ 0]):=(HK.out.2.1.block _ JH.out.lt hne hne).trans JH.out;by_cases hlt:i<lm
    ·have hlt':(i:Int)<(lm:Int):=ω
     have hi0:(0:Int)≤(i:Int):=ω
     obtain⟨gq,oq,Cq,eq,d1⟩:=Bb.out.at_ (i:=i) (by rw[TW.out];exact hlt);rw[TW.out]at eq;injection eq with qm ql qj;subst qm;subst qj;clear ql;have Cz:=Qdc (s:=a) (q:=q) (i:=i) (by rw[TW.out];exact hlt);obtain⟨z,hz⟩:=Mem.QD ((a.kid q).getD i 0);have jZ:z<a.n:=by rw[←hz];exact Z1 _ (QJ (by rw[TW.out];exact hlt))
     rw[hz]at d1 Cz;have n1:=(HK.out.1.cell (VJ _ _ qX.out)).trans qX.out;have n2:=(HK.out.1.cell (VJ _ _ BH.out)).trans BH.out;have n3:=(HK.out.1.cell (VJ _ _ (Iu.out z jZ))).trans (Iu.out z jZ);have WC:gq<w.heap.size:=by obtain⟨A',C',e',_,_,h3⟩:=Bb.out;obtain⟨b',o',e2,hS,_⟩:=h3.at_ (ints_at (QN (by rw[TW.out];exact hlt:i<(a.kid q).length)));injection e' with e3;rw[e2]at e3;injection e3 with e3;injection e3 with e3;rw[e3];exact(JL.out.safe _ hS).1
     have Tf:wr.cell? ⟨gq,oq+i,none⟩=some (ι γ (z:Int)):=by rw[JW (w:=w3) (HK.out.2.1.block gq (by have:=VG.out.size;omega) ω ω)];exact d1
     have hz0:(0:Int)≤(z:Int):=ω
     have nD:(z:Int)<(a.n:Int):=ω
     have ZV:=HK.out.2.2.set (i:=2) ψ (ι γ ((a.no z:Nat):Int));have SB:Hid (Below w.heap.size w (wr.setCell ⟨g9,2,none⟩ (ι γ ((a.no z:Nat):Int)))∧QB g9 g9 w3 (wr.setCell ⟨g9,2,none⟩ (ι γ ((a.no z:Nat):Int)))∧ZY (wr.setCell ⟨g9,2,none⟩ (ι γ ((a.no z:Nat):Int))) g9 73 [ι γ 7,σ x,ι γ (Kr a q (i+1))]):=by refine⟨Zn HK.out.1 ω _ _,⟨HK.out.2.1.os,HK.out.2.1.tape,HK.out.2.1.output,by have:=HK.out.2.1.size;simpa using this,fun j h1 h2 h3=>?_⟩,by rw[Cz];exact ZV⟩;rw[Below.heap_setCell _ _ _ _ (show j≠g9 from h2)];exact HK.out.2.1.block j h1 h2 h3
     have r2:=HK.out.2.2.at_ (i:=2) rfl;have f2:=HK.out.2.2.free 2;generalize a.no z=nz at *;clear d1 hz ZV Cz WC HK PY;go_wp2
     go_roundw
     case rel=>exact⟨i+1,ω,by go_num,SB⟩
     case measure=>simp[intOf];omega
    ·obtain rfl:lm=i:=ω
     have hlt':¬(lm:Int)<(lm:Int):=ω
     have r0:=HK.out.2.2.at_ (i:=0) rfl;have r1:=HK.out.2.2.at_ (i:=1) rfl;have r2:=HK.out.2.2.at_ (i:=2) rfl;have q0:=PY.out.at_ (i:=0) rfl;have q1:=PY.out.at_ (i:=1) rfl;have q2:=PY.out.at_ (i:=2) rfl;have e0:=PY.out.free 0;have e1:=PY.out.free 1;have e2:=PY.out.free 2;have Pr:=QA (Xz HK.out.1 PY.out 7 (Kr a q lm) x);generalize Kr a q lm=rv at *;exact c49
  ·by_cases h4:k=4∨k=5∨k=6
   ·have SE:Hid (keyOf a p=some (k,x,-1)):=by show _=_;unfold keyOf;rw[KA.out,MB.out,if_neg h2,if_pos h4]
    have Pr:=QA (Xz VG.out JH.out k (-1) x);have d2:(k==2)=false:=beq_eq_false_iff_ne.2 h2;rcases h4 with h4|h4|h4
    all_goals subst h4
    all_goals go_wp2
    all_goals(obtain⟨h1,h2⟩:=Pr.out;refine bodyPost_ret (v:=.tuple #[ξ #[ι γ _,σ x,ι γ (-1)],τ true]) ?_ rfl ⟨h1,by rw[SE.out];rfl⟩;rw[results_cell_tmp rfl];simp[asAddr,Result.andThen,h2])
   ·have SE:Hid (keyOf a p=none):=by show _=_;unfold keyOf;rw[KA.out,if_neg h2,if_neg h4,if_neg h7]
    have Pr:=QA (Xz VG.out JH.out 0 0 ⟨#[]⟩);have d2:(k==2)=false:=beq_eq_false_iff_ne.2 h2;have d4:(k==4)=false:=beq_eq_false_iff_ne.2 fun h=>h4 (.inl h)
    have d5:(k==5)=false:=beq_eq_false_iff_ne.2 fun h=>h4 (.inr (.inl h))
    have d6:(k==6)=false:=beq_eq_false_iff_ne.2 fun h=>h4 (.inr (.inr h))
    exact c42
theorem Qs4(h:MS w S g gA gB a b M)(hf:Fit a b)(p:Nat)(hp:p<b.n)(h7:(b.at_ p).k=7→0<(b.kid p).length) :
 Calls Tryz.prog 44 #[π (some ⟨g,0,none⟩),ι γ 1,ι γ (p:Int)] w (fo w (keyOf b p)):=by
 have HP:=QA hp;have JL:=QA h;have HF:=QA hf;have H7:=QA h7;clear h hf hp h7;go_enter Tryz.func44,Tryz.ntmps44
 go_upto_region 1 with(fail)
 have hb1:=Qz w (θ #[ι γ 0,σ ⟨#[]⟩,ι γ 0] 73);have qG:Hid (ZY (w.alloc (θ #[ι γ 0,σ ⟨#[]⟩,ι γ 0] 73)) w.heap.size 73 [ι γ 0,σ ⟨#[]⟩,ι γ 0]):=heap_alloc_new w _;have EJ:=JL.out.later hb1;have Z':=QA hb1;generalize w.alloc (θ #[ι γ 0,σ ⟨#[]⟩,ι γ 0] 73)=w1 at *;obtain⟨gN,oN,CN,sl,c0,⟨n0,n1,n2,n3⟩,hk⟩:=EJ.ro.pb.node HP.out;obtain⟨As,Cs,rfl,_,_⟩:=hk.slice;have hp0:(0:Int)≤(p:Int):=ω
 have GZ:(p:Int)<(b.n:Int):=by have:=HP.out;omega
 obtain⟨m,hm⟩:=Mem.QD ((b.at_ p).c.len);obtain⟨k,hk⟩:=Mem.QD ((b.at_ p).k);obtain⟨x,hx⟩:=Mem.QD ((b.at_ p).x);obtain⟨y,hy⟩:=Mem.QD ((b.at_ p).y);have KA:=QA hk;have MB:=QA hx;rw[hk]at n0;rw[hx]at n1;rw[hy]at n2;rw[hm]at n3;clear hb1 EJ hk hx hy hm
 go_upto_region 2 with(fail)
 have hb2:=Qz w1 (θ #[ι γ k,σ x,σ y,ς As m Cs] 24);have DN:Hid (ZY (w1.alloc (θ #[ι γ k,σ x,σ y,ς As m Cs] 24)) w1.heap.size 24 [ι γ k,σ x,σ y,ς As m Cs]):=heap_alloc_new w1 _;have Tn:=QA (qG.out.keep hb2);have hsz1:w.heap.size<w1.heap.size:=qG.out.lt;have XC:=QA (Z'.out.trans (hb2.mono ω));generalize w1.alloc (θ #[ι γ k,σ x,σ y,ς As m Cs] 24)=w2 at *;generalize w1.heap.size=g8 at *;clear hb2 qG Z' c0 n0 n1 n2 n3;have k0:=DN.out.at_ (i:=0) rfl;have k1:=DN.out.at_ (i:=1) rfl
 go_upto_region 3 with(fail)
 have hb3:=Qz w2 (θ #[ι γ k,σ x,ι γ (-1)] 73);have Si:Hid (ZY (w2.alloc (θ #[ι γ k,σ x,ι γ (-1)] 73)) w2.heap.size 73 [ι γ k,σ x,ι γ (-1)]):=heap_alloc_new w2 _;have qF:=QA (DN.out.keep hb3);have JH:=QA (Tn.out.keep hb3);have LU:w.heap.size<w2.heap.size:=Tn.out.lt;have mb:g8<w2.heap.size:=DN.out.lt;have VG:=QA (XC.out.trans (hb3.mono ω));generalize w2.alloc (θ #[ι γ k,σ x,ι γ (-1)] 73)=w3 at *;generalize w2.heap.size=g9 at *;clear hb3 DN Tn XC k0 k1;have k0:=qF.out.at_ (i:=0) rfl;have r0:=Si.out.at_ (i:=0) rfl;have r1:=Si.out.at_ (i:=1) rfl;have r2:=Si.out.at_ (i:=2) rfl;have f0:=Si.out.free 0;have f1:=Si.out.free 1;have f2:=Si.out.free 2;have q0:=JH.out.at_ (i:=0) rfl;have q1:=JH.out.at_ (i:=1) rfl;have q2:=JH.out.at_ (i:=2) rfl;have e0:=JH.out.free 0;have e1:=JH.out.free 1;have e2:=JH.out.free 2;by_cases h2:k=2
 ·subst h2;have SE:Hid (keyOf b p=some (2,⟨#[]⟩,-1)):=by show _=_;unfold keyOf;rw[KA.out,if_pos rfl];rfl
  exact c32
 ·by_cases h7:k=7
  ·subst h7;have Nt:=JL.out.later VG.out;obtain⟨gK,oK,CK,A0,C0,j0,j1,_,_,j4⟩:=Nt.ro.pb.kids HP.out;have jY:w3.cell? ⟨g,7,none⟩=some (ς (some ⟨gK,oK,none⟩) b.n CK):=j0;obtain⟨gr,tT,rfl,_,hq⟩:=j4.at_ (ints_at (QN (H7.out KA.out)));obtain⟨q,Fq⟩:=Mem.QD ((b.kid p)[0]'(H7.out KA.out));rw[Fq,Nat.add_zero]at hq;have mC:q∈b.kid p:=by rw[←Fq];exact List.getElem_mem _
   have Ob:q<b.n:=Z1 q mC
   have aA:Hid (recv b p=(b.kid q).foldl (fun _ q=>((b.no q:Nat):Int)) (-1)):=by
    show _=_;unfold recv;rw[QX,QN (H7.out KA.out),Fq];rfl
   obtain⟨gL,oL,CL,A1,C1,l0,l1,l2,l3,l4⟩:=Nt.ro.pb.kids Ob;have MZ:w3.cell? ⟨g,7,none⟩=some (ς (some ⟨gL,oL,none⟩) b.n CL):=l0;rw[jY]at MZ;injection MZ with MZ;injection MZ with MX nC nB;injection MX with MX;injection MX with MX nu;subst MX;subst nu;obtain⟨ln,YO⟩:=Mem.QD ((b.kid p).length);obtain⟨lm,hlm⟩:=Mem.QD ((b.kid q).length);have TW:=QA hlm;have mN:(0:Int)<(ln:Int):=by have:=H7.out KA.out;omega
   have mO:lm≤20000:=by rw[←hlm];exact QW (Uw b q) HF.out.nb
   rw[YO]at j1;rw[hlm]at l1;have hq0:(0:Int)≤(q:Int):=ω
   have mz:(q:Int)<(b.n:Int):=ω
   have Bb:Hid (Qu w3 S (ς A1 lm C1) (b.kid q)):=⟨A1,C1,by rw[hlm],l2,l3,l4⟩;have qE:Hid (ZY w3 g9 73 [ι γ 7,σ x,ι γ (Kr b q 0)]):=Si.out;have SE:Hid (keyOf b p=some (7,x,Kr b q lm)):=by show _=_;unfold keyOf Kr;rw[KA.out,MB.out,if_neg ω,if_neg ω,if_pos rfl,aA.out,←TW.out,List.take_length]
   clear Nt j0 j4 Fq l0 l2 l3 l4 YO hlm r0 r1 r2 f0 f1 f2 q0 q1 q2 e0 e1 e2 nC nB h2
   go_upto_region 13 with(fail)
   clear k0 jY j1 hq l1;obtain⟨gM,oM,CM,gN2,oN2,CN2,n1,n2,n3⟩:=(Ø (N:=1000000) (ys:=[]) (vy:=ς none 0 0) JL.out HF.out (fun _ h=>by cases h) ⟨none,0,rfl,QI _,by unfold maxLen;omega,.inl rfl⟩ (ZR _) (fun x hx=>HF.out.fb _ (JK (Jo HF.out.lb hx)))).Nj;have qX:=QA n1;have BH:=QA n2;have Iu:=QA n3;clear n1 n2 n3
   go_loopw [63] (fun ju wr=>∃i:Nat,i≤lm∧ju=ι γ (i:Int)∧Hid (Below w.heap.size w wr∧QB g9 g9 w3 wr∧ZY wr g9 73 [ι γ 7,σ x,ι γ (Kr b q i)])) (fun s _=>lm-(intOf s).toNat)
   case atStart=>exact⟨0,ZR _,rfl,⟨VG.out,QB.refl _ _ _,qE.out⟩⟩
   case round =>
    obtain⟨i,hi,rfl,HK⟩:=hrel;have hne:w.heap.size≠g9:=ω
    have PY:Hid (ZY wr w.heap.size 73 [ι γ 0,σ ⟨#[]⟩,ι γ 0]):=(HK.out.2.1.block _ JH.out.lt hne hne).trans JH.out;by_cases hlt:i<lm
    ·have hlt':(i:Int)<(lm:Int):=ω
     have hi0:(0:Int)≤(i:Int):=ω
     obtain⟨gq,oq,Cq,eq,d1⟩:=Bb.out.at_ (i:=i) (by rw[TW.out];exact hlt);rw[TW.out]at eq;injection eq with qm ql qj;subst qm;subst qj;clear ql;have Cz:=Qdc (s:=b) (q:=q) (i:=i) (by rw[TW.out];exact hlt);obtain⟨z,hz⟩:=Mem.QD ((b.kid q).getD i 0);have jZ:z<b.n:=by rw[←hz];exact Z1 _ (QJ (by rw[TW.out];exact hlt))
     rw[hz]at d1 Cz;have n1:=(HK.out.1.cell (VJ _ _ qX.out)).trans qX.out;have n2:=(HK.out.1.cell (VJ _ _ BH.out)).trans BH.out;have n3:=(HK.out.1.cell (VJ _ _ (Iu.out z jZ))).trans (Iu.out z jZ);have WC:gq<w.heap.size:=by obtain⟨A',C',e',_,_,h3⟩:=Bb.out;obtain⟨b',o',e2,hS,_⟩:=h3.at_ (ints_at (QN (by rw[TW.out];exact hlt:i<(b.kid q).length)));injection e' with e3;rw[e2]at e3;injection e3 with e3;injection e3 with e3;rw[e3];exact(JL.out.safe _ hS).1
     have Tf:wr.cell? ⟨gq,oq+i,none⟩=some (ι γ (z:Int)):=by rw[JW (w:=w3) (HK.out.2.1.block gq (by have:=VG.out.size;omega) ω ω)];exact d1
     have hz0:(0:Int)≤(z:Int):=ω
     have nD:(z:Int)<(b.n:Int):=ω
     have ZV:=HK.out.2.2.set (i:=2) ψ (ι γ ((b.no z:Nat):Int));have SB:Hid (Below w.heap.size w (wr.setCell ⟨g9,2,none⟩ (ι γ ((b.no z:Nat):Int)))∧QB g9 g9 w3 (wr.setCell ⟨g9,2,none⟩ (ι γ ((b.no z:Nat):Int)))∧ZY (wr.setCell ⟨g9,2,none⟩ (ι γ ((b.no z:Nat):Int))) g9 73 [ι γ 7,σ x,ι γ (Kr b q (i+1))]):=by refine⟨Zn HK.out.1 ω _ _,⟨HK.out.2.1.os,HK.out.2.1.tape,HK.out.2.1.output,by have:=HK.out.2.1.size;simpa using this,fun j h1 h2 h3=>?_⟩,by rw[Cz];exact ZV⟩;rw[Below.heap_setCell _ _ _ _ (show j≠g9 from h2)];exact HK.out.2.1.block j h1 h2 h3
     have r2:=HK.out.2.2.at_ (i:=2) rfl;have f2:=HK.out.2.2.free 2;generalize b.no z=nz at *;clear d1 hz ZV Cz WC HK PY;go_wp2
     go_roundw
     case rel=>exact⟨i+1,ω,by go_num,SB⟩
     case measure=>simp[intOf];omega
    ·obtain rfl:lm=i:=ω
     have hlt':¬(lm:Int)<(lm:Int):=ω
     have r0:=HK.out.2.2.at_ (i:=0) rfl;have r1:=HK.out.2.2.at_ (i:=1) rfl;have r2:=HK.out.2.2.at_ (i:=2) rfl;have q0:=PY.out.at_ (i:=0) rfl;have q1:=PY.out.at_ (i:=1) rfl;have q2:=PY.out.at_ (i:=2) rfl;have e0:=PY.out.free 0;have e1:=PY.out.free 1;have e2:=PY.out.free 2;have Pr:=QA (Xz HK.out.1 PY.out 7 (Kr b q lm) x);generalize Kr b q lm=rv at *;exact c49
  ·by_cases h4:k=4∨k=5∨k=6
   ·have SE:Hid (keyOf b p=some (k,x,-1)):=by show _=_;unfold keyOf;rw[KA.out,MB.out,if_neg h2,if_pos h4]
    have Pr:=QA (Xz VG.out JH.out k (-1) x);have d2:(k==2)=false:=beq_eq_false_iff_ne.2 h2;rcases h4 with h4|h4|h4
    all_goals subst h4
    all_goals go_wp2
    all_goals(obtain⟨h1,h2⟩:=Pr.out;refine bodyPost_ret (v:=.tuple #[ξ #[ι γ _,σ x,ι γ (-1)],τ true]) ?_ rfl ⟨h1,by rw[SE.out];rfl⟩;rw[results_cell_tmp rfl];simp[asAddr,Result.andThen,h2])
   ·have SE:Hid (keyOf b p=none):=by show _=_;unfold keyOf;rw[KA.out,if_neg h2,if_neg h4,if_neg h7]
    have Pr:=QA (Xz VG.out JH.out 0 0 ⟨#[]⟩);have d2:(k==2)=false:=beq_eq_false_iff_ne.2 h2;have d4:(k==4)=false:=beq_eq_false_iff_ne.2 fun h=>h4 (.inl h)
    have d5:(k==5)=false:=beq_eq_false_iff_ne.2 fun h=>h4 (.inr (.inl h))
    have d6:(k==6)=false:=beq_eq_false_iff_ne.2 fun h=>h4 (.inr (.inr h))
    exact c42
end Match
namespace Match
open Mem Tree Shape
theorem Gr:Maps.Keyed prog 73:=Maps.Keyed.of_law (deep_law_laid (m:=5) χ ω (Nat.le_of_ble_eq_true χ) χ χ)
theorem Ej:Maps.Keyed prog 82:=Maps.Keyed.of_law (deep_law_laid (m:=5) χ ω (Nat.le_of_ble_eq_true χ) χ χ)
theorem Qe2:∃d,prog.types.size=d+1:=by
 have h:73<prog.types.size:=Nat.le_of_ble_eq_true χ;exact⟨prog.types.size-1,ω⟩
theorem pQ(z:Int)(h1 : -9223372036854775808≤z)(h2:z≤9223372036854775807):(Lit.int γ z).wf=true:=by
 have e1:IntKind.i64.min = -9223372036854775808:=rfl;have e2:IntKind.i64.max=9223372036854775807:=rfl;simp[Lit.wf,e1,e2];omega
theorem ŭ:prog.cellsOf 3=1:=χ
theorem Qpq:prog.cellsOf 9=1:=χ
theorem Ź:prog.cellsOf 82=2:=χ
theorem Ů:prog.cellsOf 73=3:=χ
theorem Qul(o m:Int)(h1 : -9223372036854775808≤o)(h2:o≤9223372036854775807)(h3 : -9223372036854775808≤m)(h4:m≤9223372036854775807):∃l,Go.keyOf prog 82 (.agg #[.int γ o,.int γ m])=some l:=by
 have hu:prog.underlying 82=_:=underlying82;have h5:prog.keyType 82=true:=χ
 have h6:Value.formed prog 82 (.agg #[.int γ o,.int γ m])=true:=by simp[Value.formed,hu,Ź]
 obtain⟨d,hd⟩:=Qe2;have h7:=pQ o h1 h2;have h8:=pQ m h3 h4;unfold Go.keyOf;rw[hu];simp only;rw[h5,h6,hd];simp[Program.keyLits,hu,underlying3,Ź,ŭ,h7,h8,Value.cells]
theorem Qys(k r:Int)(x:ByteArray)(h1 : -9223372036854775808≤k)(h2:k≤9223372036854775807)(h3 : -9223372036854775808≤r)(h4:r≤9223372036854775807)(hx:x.size≤maxLen):∃l,Go.keyOf prog 73 (.agg #[.int γ k,.string x,.int γ r])=some l:=by
 have hu:prog.underlying 73=_:=underlying73;have h5:prog.keyType 73=true:=χ
 have h6:Value.formed prog 73 (.agg #[.int γ k,.string x,.int γ r])=true:=by simp[Value.formed,hu,Ů]
 obtain⟨d,hd⟩:=Qe2;have h7:=pQ k h1 h2;have h8:=pQ r h3 h4;unfold Go.keyOf;rw[hu];simp only;rw[h5,h6,hd];simp[Program.keyLits,hu,underlying3,underlying9,Ů,ŭ,Qpq,h7,h8,hx,Value.cells]
theorem Vj.of_block{w w':World}{P:Program}{k:TypeId}{z:Value}{b n:Nat}{f:Lit→Value}(h:Vj w P k z b n f)(hb:w'.heap[b]?=w.heap[b]?):Vj w' P k z b n f:=by
 obtain⟨D,⟨es,clock,h1,h2,h3,h4⟩,h5⟩:=h;exact⟨D,⟨es,clock,hb.trans h1,h2,h3,h4⟩,h5⟩
open WideElems in
theorem Qjp{w:World}{P:Program}{k t e:TypeId}{z:Value}{b:Nat}{es:Array MapEntry}{clock:Nat}(K:Maps.Keyed P k)(ht:P.underlying t=some (.map k e))(hz:∀u:World,(zeroValue e).run P u=.ok z u)(hb:w.heap[b]?=some (.map es clock))(F:WideElems.Fit P k bH es clock){key:Value}{kl:Lit}(hkey:Go.keyOf P k key=some kl) :
 ∃(v0:Value)(st:Nat)(w1:World),(Instr.mapEntry t (.map (some b)) key).run P w=.ok (.tuple #[v0,goInt st]) w1∧w.grownBy w1 (some b)∧(Instr.lookup t (.map (some b)) key false).run P w=.ok v0 w∧
  ∀(w2:World)(val:Value),w2.heap[b]?=w1.heap[b]?→∃w3 w',(Instr.entryStore t (.map (some b)) (goInt st) val).run P w2=.ok () w3∧w2.grownBy w3 (some b)∧(Instr.mapUpdate t (.map (some b)) key val).run P w=.ok () w'∧w3.heap[b]?=w'.heap[b]?:=by
 have hgrow:∀(u:World)(a1:Array MapEntry)(c1:Nat)(o':Obj),u.heap[b]?=some (.map a1 c1)→u.grownBy (ChangeMaps.setBlock u b o') (some b):=fun u a1 c1 o' hu=>⟨rfl,rfl,rfl,by simp[ChangeMaps.setBlock],fun i _ hi=>ChangeMaps.heap_setBlock_other hu _ (fun e=>hi (by rw[e]))⟩
 obtain⟨s1,s2,s3⟩:=(MapKept.stamped_iff es clock).1 F.stamped;rcases K.find w hkey es.toList F.keys with⟨h1,_⟩|⟨j,e0,h1,h2,h3⟩
 ·have r1:(Instr.mapEntry t (.map (some b)) key).run P w=.ok (.tuple #[z,goInt clock]) (ChangeMaps.setBlock w b (.map (es.push ⟨key,z,clock⟩) (clock+1))):=by
   simp[Instr.mapEntry,run_underlying ht,MapKept.run_getObj_map hb,K.check w false hkey,h1,hz,MapKept.run_setObj_map _ hb,Result.andThen,ChangeMaps.setBlock]
  have r2:(Instr.lookup t (.map (some b)) key false).run P w=.ok z w:=by simp[Instr.lookup,run_underlying ht,MapKept.run_getObj_map hb,K.check w _ hkey,h1,hz,Result.andThen]
  refine⟨z,clock,_,r1,hgrow w _ _ _ hb,r2,fun w2 val hw2=>?_⟩;rw[ChangeMaps.heap_setBlock_same hb]at hw2
  have hi:(es.push ⟨key,z,clock⟩).findIdx? (fun e=>((e.born:Nat):Int)==((clock:Nat):Int))=some es.size:=by
   rw[findIdx_arr];refine findIdx_born (e0:=⟨key,z,clock⟩) ?_ ψ;rw[Array.toList_push,List.map_append,List.nodup_append];refine⟨s2,ψ,fun p hp q hq he=>?_⟩;obtain⟨u,hu,rfl⟩:=List.mem_map.1 hp;have:=s1 u hu;simp only[List.map_cons,List.map_nil,List.mem_singleton]at hq;omega
  have hm:(es.push ⟨key,z,clock⟩).modify es.size (fun e => { e with val:=val })=es.push ⟨key,val,clock⟩:=by
   apply Array.ext';rw[Array.toList_modify,Array.toList_push,Array.toList_push,←Array.length_toList,modify_last]
  refine⟨ChangeMaps.setBlock w2 b (.map (es.push ⟨key,val,clock⟩) (clock+1)),ChangeMaps.setBlock w b (.map (es.push ⟨key,val,clock⟩) (clock+1)),?_,hgrow w2 _ _ _ hw2,?_,by rw[ChangeMaps.heap_setBlock_same hw2,ChangeMaps.heap_setBlock_same hb]⟩
  ·exact c78
  ·simp[Instr.mapUpdate,run_underlying ht,MapKept.run_getObj_map hb,K.check w false hkey,h1,MapKept.run_setObj_map _ hb,Result.andThen,ChangeMaps.setBlock]
 ·have hj:es[j]?=some e0:=by simpa using h2
  have kH:es.modify j (fun e => { e with key:=key })=es:=by
   apply Array.ext';rw[Array.toList_modify,ChangeMaps.modify_eq_set _ _ _ _ h2,show({ e0 with key:=key }:MapEntry)=e0 by rw[←h3]];exact set_self _ _ _ h2
  have r1:(Instr.mapEntry t (.map (some b)) key).run P w=.ok (.tuple #[e0.val,goInt e0.born]) (ChangeMaps.setBlock w b (.map es clock)):=by simp[Instr.mapEntry,run_underlying ht,MapKept.run_getObj_map hb,K.check w false hkey,h1,hj,h3,K.stays w hkey,kH,MapKept.run_setObj_map _ hb,Result.andThen,ChangeMaps.setBlock]
  have r2:(Instr.lookup t (.map (some b)) key false).run P w=.ok e0.val w:=by simp[Instr.lookup,run_underlying ht,MapKept.run_getObj_map hb,K.check w _ hkey,h1,Result.andThen]
  refine⟨e0.val,e0.born,_,r1,hgrow w _ _ _ hb,r2,fun w2 val hw2=>?_⟩;rw[ChangeMaps.heap_setBlock_same hb]at hw2
  have hi:es.findIdx? (fun e=>((e.born:Nat):Int)==((e0.born:Nat):Int))=some j:=by
   rw[findIdx_arr];exact findIdx_born s2 h2
  have hm:es.modify j (fun e => { e with val:=val })=es.modify j (fun e' => { e' with key:=key,val:=val }):=by
   apply Array.ext';rw[Array.toList_modify,Array.toList_modify,ChangeMaps.modify_eq_set _ _ _ _ h2,ChangeMaps.modify_eq_set _ _ _ _ h2,←h3]
  refine⟨ChangeMaps.setBlock w2 b (.map (es.modify j (fun e'=>{ e' with key:=key,val:=val })) clock),ChangeMaps.setBlock w b (.map (es.modify j (fun e'=>{ e' with key:=key,val:=val })) clock),?_,hgrow w2 _ _ _ hw2,?_,by rw[ChangeMaps.heap_setBlock_same hw2,ChangeMaps.heap_setBlock_same hb]⟩
  ·exact c78
  ·simp[Instr.mapUpdate,run_underlying ht,MapKept.run_getObj_map hb,K.check w false hkey,h1,hj,h3,K.stays w hkey,MapKept.run_setObj_map _ hb,Result.andThen,ChangeMaps.setBlock]
theorem Vj.entry{w:World}{P:Program}{k t e:TypeId}{z:Value}{b n:Nat}{f:Lit→Value}(h:Vj w P k z b n f)(K:Maps.Keyed P k)(ht:P.underlying t=some (.map k e))(hz:∀u:World,(zeroValue e).run P u=.ok z u)(hn:n<maxLen){key:Value}{kl:Lit}(hkey:Go.keyOf P k key=some kl) :
 ∃(st:Nat)(w1:World),(Instr.mapEntry t (.map (some b)) key).run P w=.ok (.tuple #[f kl,goInt st]) w1∧w.grownBy w1 (some b)∧
  ∀(w2:World)(val:Value),w2.heap[b]?=w1.heap[b]?→∃w3,(Instr.entryStore t (.map (some b)) (goInt st) val).run P w2=.ok () w3∧Vj w3 P k z b (n+1) (KN f kl val)∧w2.grownBy w3 (some b):=by
 have kV:=Vj.look h K ht (hz w) hkey;have hput:=fun val:Value=>Vj.put (val:=val) h K ht hn hkey
 obtain⟨D,⟨es,clock,hb,F,hs,hD⟩,hat⟩:=h;obtain⟨v0,st,w1,hrun,hg,hl,hst⟩:=Qjp K ht hz hb F hkey;rw[kV]at hl;have hv0:f kl=v0:=by injection hl
 refine⟨st,w1,by rw[hrun,hv0],hg,fun w2 val hw2=>?_⟩;obtain⟨w3,w',r1,r2,r3,r4⟩:=hst w2 val hw2;obtain⟨w'',r5,hm,_⟩:=hput val;rw[r3]at r5;have e2:w'=w'':=by injection r5
 exact⟨w3,r1,hm.of_block (by rw[r4,e2]),r2⟩
def vE(b:Nat)(o:Option Obj):QC :=
 ⟨some b,fun w=>b<w.heap.size∧w.heap[b]?=o,fun w k h hk=>(by injection hk with hk;subst hk;exact h.1),fun w w' row h hg hne=>⟨Nat.lt_of_lt_of_le h.1 hg.size,(hg.block b h.1 (by rcases hne with h|h;cases h;exact h)).trans h.2⟩⟩
section
variable {w:World}{P:Program}{k t e:TypeId}{z:Value}{b n B i:Nat}{f:Lit→Value}{R:List QC}
theorem Qpi(h:QH w B R)(hi:R[i]?=some (Zm P k z b n f))(K:Maps.Keyed P k)(ht:P.underlying t=some (.map k e))(hz:∀u:World,(zeroValue e).run P u=.ok z u)(hn:n<maxLen){key:Value}{kl:Lit}(hkey:Go.keyOf P k key=some kl) :
 ∃(st:Nat)(w1:World)(ob:Option Obj),(Instr.mapEntry t (.map (some b)) key).run P w=.ok (.tuple #[f kl,goInt st]) w1∧QH w1 B (R.set i (vE b ob))∧Below B w w1∧
  ∀(w2:World)(R2:List QC)(val:Value),QH w2 B R2→R2[i]?=some (vE b ob)→∃w3,(Instr.entryStore t (.map (some b)) (goInt st) val).run P w2=.ok () w3∧QH w3 B (R2.set i (Zm P k z b (n+1) (KN f kl val)))∧Below B w2 w3:=by
 obtain⟨st,w1,hr,hg,hst⟩:=Vj.entry (show Vj w P k z b n f from h.get hi) K ht hz hn hkey;have hlt:b<w.heap.size:=Vj.lt (show Vj w P k z b n f from h.get hi);refine⟨st,w1,w1.heap[b]?,hr,h.set hi hg (t':=vE b w1.heap[b]?) ⟨Nat.lt_of_lt_of_le hlt hg.size,rfl⟩ (.inl rfl),h.QF hi hg,fun w2 R2 val hf2 hi2=>?_⟩;obtain⟨w3,r3,m3,g3⟩:=hst w2 val (show b<w2.heap.size∧w2.heap[b]?=w1.heap[b]? from hf2.get hi2).2;exact⟨w3,r3,hf2.set hi2 g3 (t':=Zm P k z b (n+1) (KN f kl val)) m3 (.inl rfl),hf2.QF hi2 g3⟩
end
def Zu:Value:=ς none 0 0
theorem Us(W:World):(zeroValue 32).run Tryz.prog W=.ok Zu W:=χ
structure QV{κ:Type}(kt:TypeId)(lit:κ→Lit)(D:κ→Prop)(ix:κ→Nat)(N:Nat)(X:List QC)(B:Nat)(W:World)(gm cnt:Nat)(f:Lit→Value)(v:Nat→Value)(L:Nat→List Nat):Prop where
 all:QH W B (Zm Tryz.prog kt Zu gm cnt f::(Qw N v L++X))
 at_:∀k,D k→f (lit k)=v (ix k)
section
variable {κ:Type}{kt:TypeId}{lit:κ→Lit}{D:κ→Prop}{ix:κ→Nat}{N B:Nat}{X:List QC}{W:World}{gm cnt:Nat}{f:Lit→Value}{v:Nat→Value}{L:Nat→List Nat}
theorem QV.start(kt:TypeId)(lit:κ→Lit)(D:κ→Prop)(ix:κ→Nat)(N:Nat)(w:World):QV kt lit D ix N [] w.heap.size (w.alloc (.map #[] 0)) w.heap.size 0 (fun _=>Zu) (fun _=>Zu) (fun _=>[]) :=
 ⟨by rw[List.append_nil];exact Ud (pX (QH.nil w) Tryz.prog kt Zu) N,fun _ _=>rfl⟩
theorem QV.later{W':World}(h:QV kt lit D ix N X B W gm cnt f v L)(hb:Below W.heap.size W W'):QV kt lit D ix N X B W' gm cnt f v L:=⟨h.all.later hb,h.at_⟩
theorem QV.more{e:TypeId}{sz:Nat}(h:QV kt lit D ix N X B W gm cnt f v L)(cs:Array Value)(n:Nat)(hm:n≤maxLen)(hs:cs.size=n*sz):QV kt lit D ix N (X++[Qb e sz (ς (some ⟨W.heap.size,0,none⟩) n n) n cs.toList]) B (W.alloc (θ cs e)) gm cnt f v L:=by
 refine⟨?_,h.at_⟩;have:=h.all.box (e:=e) (sz:=sz) cs n hm hs;rw[List.cons_append,List.append_assoc]at this;exact this
theorem QV.less{X':List QC}(h:QV kt lit D ix N X B W gm cnt f v L)(hs:X'.Sublist X):QV kt lit D ix N X' B W gm cnt f v L :=
 ⟨h.all.sub (List.Sublist.cons_cons _ (List.Sublist.append (List.Sublist.refl _) hs)),h.at_⟩
theorem QV.idx(h:QV kt lit D ix N X B W gm cnt f v L){j:Nat}(hj:j<N):(Zm Tryz.prog kt Zu gm cnt f::(Qw N v L++X))[j+1]?=some (Qb 3 1 (v j) (L j).length (iV (ints (L j)))):=by
 rw[List.getElem?_cons_succ,List.getElem?_append_left (by rw[Qe];exact hj)];exact Vs v L hj
theorem QV.RF(h:QV kt lit D ix N X B W gm cnt f v L){j:Nat}{t:QC}(hj:X[j]?=some t):(Zm Tryz.prog kt Zu gm cnt f::(Qw N v L++X))[N+j+1]?=some t:=by
 rw[List.getElem?_cons_succ,List.getElem?_append_right (by rw[Qe];omega),Qe,Nat.add_sub_cancel_left];exact hj
theorem QV.slice(h:QV kt lit D ix N X B W gm cnt f v L){j:Nat}(hj:j<N):∃A C,v j=ς A (L j).length C∧(L j).length≤C∧C≤maxLen:=h.all.slice (h.idx hj)
theorem QV.lt(h:QV kt lit D ix N X B W gm cnt f v L):B≤gm∧gm<W.heap.size:=h.all.lt (List.mem_cons_self ..) (k:=gm) rfl
theorem QV.row(h:QV kt lit D ix N X B W gm cnt f v L){j:Nat}(hj:j<N):Qu W (In B W.heap.size) (v j) (L j):=by
 have hi:=h.idx hj;obtain⟨A,C,e,q1,q2⟩:=h.all.slice hi;refine⟨A,C,e,q1,q2,?_⟩;by_cases h0:(L j).length=0
 ·left
  exact c104
 ·exact c24
theorem Qbo{n j p:Nat}(v:Nat→Value)(L:Nat→List Nat)(v':Value):(Qw n v L).set j (Qb 3 1 v' ((L j).length+1) (iV (ints (L j))++[.int γ (p:Int)]))=Qw n (upd v j v') (upd L j (L j++[p])):=by
 rw[←ow];unfold iV ints;rw[List.map_append,List.map_append,List.length_append];rfl
theorem QV.put{t:TypeId}{w8:World}{st:Nat}{ob:Option Obj}{k:κ}{p j:Nat}{v':Value}(hat:∀k,D k→f (lit k)=v (ix k))(hk:D k)(hinj:∀k',D k'→lit k'=lit k→k'=k)(Bp:∀k',D k'→ix k'=ix k→k'=k)(hj:ix k=j)(hN:j<N)
 (hF:QH w8 B ((vE gm ob::(Qw N v L++X)).set (j+1) (Qb 3 1 v' ((L j).length+1) (iV (ints (L j))++[.int γ (p:Int)]))))
 (hst:∀(w2:World)(R2:List QC)(val:Value),QH w2 B R2→R2[0]?=some (vE gm ob)→∃w3,(Instr.entryStore t (.map (some gm)) (goInt st) val).run Tryz.prog w2=.ok () w3∧QH w3 B (R2.set 0 (Zm Tryz.prog kt Zu gm (cnt+1) (KN f (lit k) val)))∧Below B w2 w3) :
 ∃w9,(Instr.entryStore t (.map (some gm)) (goInt st) v').run Tryz.prog w8=.ok () w9∧Below B w8 w9∧QV kt lit D ix N X B w9 gm (cnt+1) (KN f (lit k) v') (upd v j v') (upd L j (L j++[p])):=by
 rw[List.set_cons_succ,List.set_append_left _ _ (by rw[Qe];exact hN),Qbo]at hF;obtain⟨w9,hr,hf,hb⟩:=hst w8 _ v' hF rfl;refine⟨w9,hr,hb,hf,fun k' hk'=>?_⟩;by_cases e:k'=k
 ·subst e;rw[Gb,hj,Zo]
 ·rw[E0 _ _ (fun h=>e (hinj k' hk' h)),V1 _ _ (fun h=>e (Bp k' hk' (by rw[h,hj]))),hat k' hk']
end
section
variable {κ:Type}
def GJ(ix:κ→Nat)(dec:Nat→κ)(c:κ→List Nat)(j:Nat):List Nat:=if ix (dec j)=j then c (dec j)else[]
variable {ix:κ→Nat}{dec:Nat→κ}{k:κ}{c c':κ→List Nat}
theorem Et(h:dec (ix k)=k):GJ ix dec c (ix k)=c k:=by
 unfold GJ;rw[h,if_pos rfl]
theorem Qwr{p:Nat}(h:dec (ix k)=k)(hc:c' k=c k++[p])(ho:∀k',k'≠k→c' k'=c k'):GJ ix dec c'=upd (GJ ix dec c) (ix k) (GJ ix dec c (ix k)++[p]):=by
 funext j
 by_cases e:j=ix k
 ·subst e;rw[Zo,Et h,Et h,hc]
 ·rw[V1 _ _ e];unfold GJ;split
  ·rename_i h1
   refine ho _ fun h2=>e ?_
   rw[←h1,h2]
  ·rfl
theorem ŕ(h:∀k,c' k=c k):GJ ix dec c'=GJ ix dec c:=by
 have:c'=c:=funext h;rw[this]
theorem ì(h:∀k,c k=[]):GJ ix dec c=fun _=>[]:=by
 funext j
 unfold GJ;split
 ·exact h _
 ·rfl
theorem ë{m:Nat}(h:∀k,(c k).length≤m)(j:Nat):(GJ ix dec c j).length≤m:=by
 unfold GJ;split
 ·exact h _
 ·exact Nat.zero_le _
theorem É{k':κ}(h:dec (ix k)=k)(h':dec (ix k')=k')(e:ix k'=ix k):k'=k:=by
 rw[←h',e,h]
theorem Qwm[DecidableEq κ]{ks:List κ}(k0:κ)(h:k∈ks):ks.getD (ks.idxOf k) k0=k:=by
 rw[List.getD_eq_getElem?_getD,List.getElem?_eq_getElem (List.idxOf_lt_length_of_mem h),Option.getD_some];exact List.getElem_idxOf _
end
