import Derived.Test.YtmepekognmlblaaGreatDoorS38
import Derived.Test.YtmepekognmlblaaGreatDoorS42
import Derived.OwnWalkIn
import Derived.TacticsInMore
import Derived.LoopNIn
import Derived.LoopIn
set_option maxHeartbeats 32000000
set_option maxRecDepth 100000
set_option linter.unusedVariables false
open Go.Proofs.Tryz Go.ChangeShapes Go.WideShapes Go.ChangeAt Go.RowKit
open Go.Lib renaming hid→QA
open _root_.Nat renaming le_refl→QI,zero_le→ZR
open _root_.List renaming getD_eq_getElem?_getD→QX,getElem?_eq_none→YP,getElem?_cons_succ→GV,mem_cons_self→XG,mem_cons_of_mem→UN,length_cons→GW,length_append→ZU,length_take→JS
open Go.World renaming block_lt_of_cell?→VJ,cell?_of_block→JW
open Go.Value renaming string→σ,int→ι,slice→ς,pointer→π,bool→τ,agg→ξ
open Go.IntKind renaming i64→γ
open Go.Obj renaming cells→θ
open Go.Ending renaming returned→ρ
namespace Go.Proofs.YtmepekognmlblaaGreatDoor
namespace Match
open Mem Tree Shape
theorem İ{s:Sd}{M:List Int}(h:s.Ok):∀i,i≤s.n→∀q,(Zv s M i).getD q 0<s.n
 |0,_,q=>by
  have:=h.pos;rw[QX,YP (by rw[Zz (ZR _)];omega)];exact this
 |i+1,hi,q=>by
  have ih:=İ (M:=M) h i ω;have hpos:=h.pos;rw[G9 ω,QX,List.getElem?_append,Zz ω];split
  ·rw[←QX];exact ih q
  ·have hp:(s.par.getD i 0).toNat<s.n:=by
    by_cases h0:i=0
    ·subst h0;rw[Sd.EF h];exact hpos
    ·obtain⟨p,h1,h2⟩:=Sd.EE h ω (show i<s.n by omega);rw[h2];omega
   by_cases hq:q-i=0
   ·rw[hq];show(if _ then _ else _)<_;split
    ·exact hp
    ·exact ih _
   ·rw[YP (by rw[List.length_singleton];omega)];exact hpos
theorem į{s:Sd}{M:List Int}(h:s.Ok)(q:Nat):(Q3 s M).getD q 0<s.n:=by
 rw[←Jf];exact İ h s.n (QI _) q
variable {w:World}{S:Nat→Prop}{g gA gB:Nat}{a b:Sd}{M:St}
def pR(w:World)(B gm:Nat)(b:Sd)(M:List Int):Prop :=
 ∃N NT cnt f v X,(N=1000000∧∀k:Nat×Nat,k.1<b.n→k.2<N→KJ N k<NT)∧QV 82 KO (fun k:Nat×Nat=>k.1<b.n∧k.2<N) (KJ N) NT X B w gm cnt f v (GJ (KJ N) (Lt N) fun k=>Xd b M (Q3 b M) k.1 k.2)
def Ĭ(z:Int):Prop:=∀u∈([.int γ z]:List Value),u.oneCell'=true
theorem Qgr(z:Int):Ĭ z:=fun u hu=>by rw[List.mem_singleton.1 hu];rfl
theorem Qn4{T:Nat→Prop}{vo:Value}(h:MS w S g gA gB a b M)(hf:Fit a b)(ro:Qu w T vo (Q3 b M.2))(hT:∀k,T k→k<w.heap.size) :
 Calls prog 47 #[π (some ⟨g,0,none⟩),vo] w fun e w'=>Below w.heap.size w w'∧∃gm,e=ρ (.map (some gm))∧pR w' w.heap.size gm b M.2:=by
 have JL:=QA h;have HF:=QA hf;have aC:=QA ro;have OL:=QA hT;have MD:=QA hf.nums.Hq;obtain⟨ov,hov⟩:=Mem.QD (Q3 b M.2);have vY:=QA hov;have rX:Hid (∀q,ov.getD q 0<b.n):=fun q=>by rw[←hov];exact į hf.nums.Hq q
 obtain⟨N,hN⟩:∃N:Nat,N=1000000:=⟨_,rfl⟩;have qW:Hid (∀x,x<b.n→b.no x<N):=fun x hx=>by rw[hN];exact hf.fb _ (List.mem_of_getElem? (Jo hf.lb hx))
 have Ir:=QA hN;obtain⟨NT,lK⟩:=Mem.QD (b.n*N);have rY:Hid (∀k:Nat×Nat,k.1<b.n→k.2<N→KJ N k<NT):=fun k h1 h2=>by rw[←lK];exact Qxw h2 h1
 have hstart:=QV.start 82 KO (fun k:Nat×Nat=>k.1<b.n∧k.2<N) (KJ N) NT w;rw[←ì (ix:=KJ N) (dec:=Lt N) (c:=XI b M.2 ov 0 0) (fun k=>Qq8)]at hstart;have HST:=QA hstart;have hnb:=hf.nb;obtain⟨n,hn⟩:=Mem.QD (b.n);have HN:=QA hn;have hol:(Q3 b M.2).length=n:=by rw[←hn,←Jf];exact Zz (QI _)
 have hpos:0<n:=by rw[←hn];exact hf.nums.Hq.pos
 obtain⟨go,oo,Co,W8,_⟩:=ro.at_ (i:=0) (by rw[hol];exact hpos);rw[hol]at W8;subst W8;rw[hn]at hnb;have Pw:=QA (Qz w (.map #[] 0));have mk:(Instr.makeMap 78 none).run prog w=.ok (.map (some w.heap.size)) (w.alloc (.map #[] 0)):=by rw[run_makeMap]
 have aH:Hid ((Q3 b M.2).length=n):=hol;obtain⟨gP,oP,CP,lY,_⟩:=h.ro.pb.parent hf.nums.Hq.pos
 have Wf:∀x,x<b.n→w.cell? ⟨gP,oP+x,none⟩=some (.int γ (b.par.getD x 0)):=fun x hx=>by
  obtain⟨g',o',C',Lj,h1⟩:=h.ro.pb.parent hx;rw[lY]at Lj;exact c96
 have HGP:Hid (w.cell? ⟨g,5,none⟩=some (ς (some ⟨gP,oP,none⟩) n CP)∧g<w.heap.size):=⟨by rw[←hn];exact lY,VJ _ _ lY⟩;have um:=QA Wf;have wO:Hid (gP<w.heap.size):=VJ _ _ (Wf 0 hf.nums.Hq.pos);rw[hn]at um;clear h hf ro hT hov hN lK hstart hn hol lY Wf;go_enter func47,ntmps47
 go_upto_region 2 with(fail)
 generalize w.alloc (.map #[] 0)=w1 at *;clear mk;generalize Dl:w.heap.size=gm at HST⊢;have Ru:=QA Dl;clear Dl;have Pb:=HST.out.more (e:=4) (sz:=1) #[.bool true,.bool false] 2 (by unfold maxLen;omega) rfl;have hb2:=Pw.out.trans ((Qz w1 (θ #[.bool true,.bool false] 4)).mono Pw.out.size);have EB:Hid (Below w.heap.size w (w1.alloc (θ #[.bool true,.bool false] 4))∧QV 82 KO (fun k:Nat×Nat=>k.1<b.n∧k.2<N) (KJ N) NT [Qb 4 1 (ς (some ⟨w1.heap.size,0,none⟩) 2 2) 2 [.bool true,.bool false]] gm (w1.alloc (θ #[.bool true,.bool false] 4)) gm 0 (fun _=>Zu) (fun _=>Zu) (GJ (KJ N) (Lt N) (XI b M.2 ov 0 0))):=⟨hb2,Pb⟩;clear Pb hb2 Pw HST;go_wp2;generalize w1.alloc (θ #[.bool true,.bool false] 4)=w2 at *;generalize w1.heap.size=gk at *
 go_loopw [14] (fun UU wr=>∃(c cnt:Nat)(f:Lit→Value)(v:Nat→Value),c≤2∧UU=.int γ (c:Int)∧cnt≤c*20000∧Hid (Below w.heap.size w wr∧QV 82 KO (fun k:Nat×Nat=>k.1<b.n∧k.2<N) (KJ N) NT [Qb 4 1 (ς (some ⟨gk,0,none⟩) 2 2) 2 [.bool true,.bool false]] gm wr gm cnt f v (GJ (KJ N) (Lt N) (XI b M.2 ov c 0)))) (fun s _=>2-(intOf s).toNat)
 case atStart=>exact⟨0,0,_,_,ω,rfl,ω,EB⟩
 case round =>
  clear EB;obtain⟨c,cnt,f,v,hc,rfl,GU,HP⟩:=hrel;by_cases hlt:c<2
  ·have hlt':(c:Int)<2:=ω
   have hc0:(0:Int)≤(c:Int):=ω
   obtain⟨kd,FC⟩:=Mem.QD (decide (c=0));have Re:=QA FC;have hcell:wr.cell? ⟨gk,c,none⟩=some (.bool kd):=by
    rw[←FC];have RY:c=0∨c=1:=ω
    rcases RY with rfl|rfl
    ·exact HP.out.2.all.cell (HP.out.2.RF (j:=0) rfl) (j:=0) rfl
    ·exact HP.out.2.all.cell (HP.out.2.RF (j:=0) rfl) (j:=1) rfl
   have c2:=(HP.out.1.cell HGP.out.2).trans HGP.out.1;clear FC;go_wp2;clear c2
   go_loopw [25] (fun s25 wq=>∃(i cnt:Nat)(f:Lit→Value)(v:Nat→Value),i≤n∧s25=.int γ (i:Int)∧cnt≤c*20000+i∧Hid (Below w.heap.size w wq∧QV 82 KO (fun k:Nat×Nat=>k.1<b.n∧k.2<N) (KJ N) NT [Qb 4 1 (ς (some ⟨gk,0,none⟩) 2 2) 2 [.bool true,.bool false]] gm wq gm cnt f v (GJ (KJ N) (Lt N) (XI b M.2 ov c i)))) (fun s _=>n-(intOf s).toNat)
   case atStart=>exact⟨0,cnt,f,v,ZR _,rfl,ω,HP⟩
   case round =>
    clear HP GU;obtain⟨i,cnt,f,v,hi,rfl,GU,HP⟩:=hrel;by_cases hil:i<n
    ·have Q3m:(i:Int)<(n:Int):=ω
     have hi0:(0:Int)≤(i:Int):=ω
     have hib:i<b.n:=by rw[HN.out];exact hil
     have HIB:=QA hib;obtain⟨pz,CF⟩:=Mem.QD (b.par.getD i 0);have d1:=(HP.out.1.cell wO.out).trans (um.out i hil);rw[CF]at d1;obtain⟨o,ho⟩:=Mem.QD (ov.getD i 0);have HO:=QA ho;obtain⟨go',oo',Co',eo',d2⟩:=aC.out.at_ (i:=i) (by rw[aH.out];exact hil);injection eo' with e1 e2 e3;injection e1 with e1;injection e1 with e4 e5;subst e4;subst e5;clear e2 e3;rw[vY.out,ho]at d2;have Mb:=QA d2;clear d2;obtain⟨ik,hik⟩:=Mem.QD (Va b ov i);have OY:=QA hik;have e1:(pz==(o:Int))=ik:=by
      rw[←hik];unfold Va;rw[CF,ho];by_cases e:pz=(o:Int)
      ·simp[e]
      ·simp[e]
     obtain⟨sm,hsm⟩:=Mem.QD ((kd==ik));have Hk:=QA (Gu (JL.out.later HP.out.1) i hib);obtain⟨fr,XM⟩:=Mem.QD (QQ M.2 i);have TX:=QA XM;rw[XM]at Hk;clear CF ho hik XM hib;go_wp2_with fail;refine Hk.out.mono ?_;rintro e w6 ⟨rfl,qd,GS⟩;have VH:Below wr.heap.size wr w6:=by rw[GS];exact⟨rfl,rfl,rfl,QI _,fun _ _=>rfl⟩
     have YC:Hid (Below w.heap.size w w6∧QV _ _ _ _ _ _ _ w6 _ _ _ _ _):=⟨HP.out.1.trans (VH.mono HP.out.1.size),HP.out.2.later VH⟩;clear GS VH Hk HP d1;have d2:=(YC.out.1.cell (VJ _ _ Mb.out)).trans Mb.out;cases fr with
     |false =>
      have Tv:Hid (Below w.heap.size w w6∧QV 82 KO (fun k:Nat×Nat=>k.1<b.n∧k.2<N) (KJ N) NT [Qb 4 1 (ς (some ⟨gk,0,none⟩) 2 2) 2 [.bool true,.bool false]] gm w6 gm cnt f v (GJ (KJ N) (Lt N) (XI b M.2 ov c (i+1)))):=by
       rw[ŕ fun k=>Ľ hlt (.inl TX.out)];exact YC.out
      clear YC;go_wp2
      go_roundw
      case rel=>exact⟨i+1,cnt,f,v,ω,by go_num,ω,Tv⟩
      case measure=>simp[intOf];omega
     |true =>
      cases sm with
      |false =>
       have Tv:Hid (Below w.heap.size w w6∧QV 82 KO (fun k:Nat×Nat=>k.1<b.n∧k.2<N) (KJ N) NT [Qb 4 1 (ς (some ⟨gk,0,none⟩) 2 2) 2 [.bool true,.bool false]] gm w6 gm cnt f v (GJ (KJ N) (Lt N) (XI b M.2 ov c (i+1)))):=by
        rw[ŕ fun k=>Ľ hlt (.inr (by rw[OY.out,Re.out];intro e;subst e;simp at hsm))];exact YC.out
       clear YC;go_wp2
       go_roundw
       case rel=>exact⟨i+1,cnt,f,v,ω,by go_num,ω,Tv⟩
       case measure=>simp[intOf];omega
      |true =>
       have TH:=JL.out.later YC.out.1;obtain⟨gM,oM,CM,A0,C0,A1,C1,n1,_,n2,_,r1⟩:=TH.ro.Nj.two;obtain⟨gN,oN,rfl,_,n3⟩:=r1.at_ (ints_at (Jo HF.out.lb HIB.out));rw[HF.out.lb,HN.out]at n2;obtain⟨m,hm⟩:=Mem.QD (b.no i);have HM:=QA hm;have Sw:m<N:=by rw[←hm];exact qW.out i HIB.out
       rw[hm]at n3;clear TH r1 hm;have Q2o:(i:Int)<(n:Int):=Q3m;go_wp2;have hbz:=Qz w6 (θ #[.int γ 0,.int γ 0] 82);have x1:=(hbz.cell (VJ _ _ n1)).trans n1;have x2:=(hbz.cell (VJ _ _ n2)).trans n2;have x3:=(hbz.cell (VJ _ _ n3)).trans n3;have x4:=(hbz.cell (VJ _ _ d2)).trans d2;clear hbz
       go_region
       clear x1 x2 x3 x4 n1 n2 n3 d2;obtain⟨j,hj⟩:=Mem.QD (KJ N (o,m));have HJ:=QA hj;have Fw:o<b.n:=by rw[←HO.out];exact rX.out i
       have Dg:j<NT:=by rw[←hj];exact rY.out (o,m) Fw Sw
       have I2:(fun k:Nat×Nat=>k.1<b.n∧k.2<N) (o,m):=⟨Fw,Sw⟩;have FP:=Ir.out;have hb1:b.n≤20000:=HF.out.nb;have hkey:Go.keyOf prog 82 (.agg #[.int γ (o:Int),.int γ (m:Int)])=some (KO (o,m)):=rz (k:=(o,m)) (by show o≤_;omega) (by show m≤_;omega);have vV:QV _ _ _ _ _ _ _ (w6.alloc (θ #[.int γ (o:Int),.int γ (m:Int)] 82)).drew _ _ _ _ _:=(YC.out.2.more (e:=82) (sz:=2) #[.int γ (o:Int),.int γ (m:Int)] 1 (by unfold maxLen;omega) rfl).later ⟨rfl,rfl,rfl,QI _,fun _ _=>rfl⟩;have xS:Below w.heap.size w (w6.alloc (θ #[.int γ (o:Int),.int γ (m:Int)] 82)).drew:=YC.out.1.trans (((Qz w6 (θ #[.int γ (o:Int),.int γ (m:Int)] 82)).trans (c:=(w6.alloc (θ #[.int γ (o:Int),.int γ (m:Int)] 82)).drew) ⟨rfl,rfl,rfl,QI _,fun _ _=>rfl⟩).mono YC.out.1.size);have s0:=vV.all.cell (vV.RF (j:=1) rfl) (j:=0) rfl;have s1:=vV.all.cell (vV.RF (j:=1) rfl) (j:=1) rfl;generalize(w6.alloc (θ #[.int γ (o:Int),.int γ (m:Int)] 82)).drew=w7 at *;generalize w6.heap.size=g10 at *;have uf:=vV.more (e:=3) (sz:=1) #[.int γ (i:Int)] 1 (by unfold maxLen;omega) rfl;have hbb:=Qz w7 (θ #[.int γ (i:Int)] 3);have YJ:=xS.trans (hbb.mono xS.size);obtain⟨Aj,Cj,ej,_,_⟩:=uf.slice Dg;have hlen:(GJ (KJ N) (Lt N) (XI b M.2 ov c i) j).length≤40000:=ë (fun k=>Nat.le_trans (Û (by rw[HN.out];exact hi)) ω) j;obtain⟨st,w9,ob,hrun,zY,U',hst⟩:=Qpi (i:=0) (e:=32) (t:=78) uf.all rfl Ej underlying78 Us (by unfold maxLen;omega) hkey;have Lx:=zY.cell (i:=NT+2+1) (by rw[List.set_cons_zero,GV,List.getElem?_append_right (by rw[Qe];omega),Qe,Nat.add_sub_cancel_left];rfl) (j:=0) rfl;have lF:((Zm prog 82 Zu gm cnt f::(Qw NT v (GJ (KJ N) (Lt N) (XI b M.2 ov c i))++(([Qb 4 1 (ς (some ⟨gk,0,none⟩) 2 2) 2 [.bool true,.bool false]]++[Qb 82 2 (ς (some ⟨g10,0,none⟩) 1 1) 1 [.int γ (o:Int),.int γ (m:Int)]])++[Qb 3 1 (ς (some ⟨w7.heap.size,0,none⟩) 1 1) 1 [.int γ (i:Int)]]))).set 0 (vE gm ob))[j+1]?=some (Qb 3 1 (v j) (GJ (KJ N) (Lt N) (XI b M.2 ov c i) j).length (iV (ints (GJ (KJ N) (Lt N) (XI b M.2 ov c i) j)))):=by have:=uf.idx Dg;rw[GV]at this;rw[List.set_cons_zero,GV];exact this
       have hat:=uf.at_;rw[hat (o,m) I2,hj,ej]at hrun;rw[ej]at lF;obtain⟨i0,KZ,hz0,hz1,hz2⟩:=info_parts Zq;obtain⟨lj,YI⟩:=Mem.QD ((GJ (KJ N) (Lt N) (XI b M.2 ov c i) j).length);have NW:=QA YI;rw[YI]at hrun lF hlen;have sL:=QA zY;have OX:=QA lF;have Si:=QA Lx;have HST:=QA hst;have Px:=QA hat;have ER:=QA (YJ.trans (c:=w9) ⟨U'.os,U'.tape,U'.output,U'.size,fun k hk=>U'.block k (by rw[←Ru.out];exact hk)⟩)
       have HCX:Hid (∀(q:Nat)(u:Value),([.int γ (i:Int)]:List Value)[q]? = some u→w9.cell? ⟨w7.heap.size,q,none⟩=some u):=fun q u hq=>by
        cases q with
        |zero=>rw[show u=.int γ (i:Int)by injection hq with hq;exact hq.symm];exact Si.out
        |succ q=>simp at hq
       have wU:=QA (And.intro Fw Sw);have Bc:Hid (Ĭ (i:Int)):=Qgr _;clear FP vV uf xS hbb YJ U' zY lF Lx hst hat YC YI Fw I2;go_wp2_with (at_builtin;refine Qwv (i:=j+1) (g:=w7.heap.size) (cs:=[.int γ (i:Int)]) sL.out OX.out rfl _ _ rfl underlying32 KZ hz0 hz1 hz2 rfl δ δ rfl HCX.out Bc.out ω rfl rfl ?_);intro A C UT xy UA cD
       have hput:∃Na,(Instr.entryStore 78 (.map (some gm)) (.int γ (st:Int)) (ς A (lj+1) C)).run prog UT = .ok () Na∧Below gm UT Na∧QV 82 KO (fun k:Nat×Nat=>k.1<b.n∧k.2<N) (KJ N) NT (([Qb 4 1 (ς (some ⟨gk,0,none⟩) 2 2) 2 [.bool true,.bool false]]++[Qb 82 2 (ς (some ⟨g10,0,none⟩) 1 1) 1 [.int γ (o:Int),.int γ (m:Int)]])++[Qb 3 1 (ς (some ⟨w7.heap.size,0,none⟩) 1 1) 1 [.int γ (i:Int)]]) gm Na gm (cnt+1) (KN f (KO (o,m)) (ς A (lj+1) C)) (upd v j (ς A (lj+1) C)) (upd (GJ (KJ N) (Lt N) (XI b M.2 ov c i)) j (GJ (KJ N) (Lt N) (XI b M.2 ov c i) j++[i])):=by
        have hb1:=HF.out.nb;have FP:=Ir.out;have hd:=wU.out;refine QV.put (ob:=ob) Px.out wU.out (fun k' hk' e=>?_) (fun k' hk' e=>?_) HJ.out Dg ?_ HST.out
        ·exact Qrf (by show o≤_;omega) (by show m≤_;omega) (by have:=hk'.1;omega) (by have:=hk'.2;omega) e
        ·exact É (ix:=KJ N) (dec:=Lt N) (rA (k:=(o,m)) hd.2) (rA (k:=k') hk'.2) e
        ·rw[NW.out];exact xy
       obtain⟨Na,Q19,Nz,hrows⟩:=hput;have WU:GJ (KJ N) (Lt N) (XI b M.2 ov c (i+1))=upd (GJ (KJ N) (Lt N) (XI b M.2 ov c i)) j (GJ (KJ N) (Lt N) (XI b M.2 ov c i) j++[i]):=by
        have e1:(o,m)=(ov.getD i 0,b.no i):=by rw[HO.out,HM.out]
        rw[←HJ.out];refine Qwr (rA wU.out.2) ?_ (fun k' hk'=>Qn5 hlt (by rw[←e1];exact hk'));rw[e1];exact Qum hlt TX.out (by rw[OY.out,Re.out];exact(beq_iff_eq.1 hsm).symm)
       have Tv:Hid (Below w.heap.size w Na∧QV 82 KO (fun k:Nat×Nat=>k.1<b.n∧k.2<N) (KJ N) NT [Qb 4 1 (ς (some ⟨gk,0,none⟩) 2 2) 2 [.bool true,.bool false]] gm Na gm (cnt+1) (KN f (KO (o,m)) (ς A (lj+1) C)) (upd v j (ς A (lj+1) C)) (GJ (KJ N) (Lt N) (XI b M.2 ov c (i+1)))):=by
        refine⟨?_,?_⟩
        ·have h10:Below w.heap.size w9 UT:=⟨UA.os,UA.tape,UA.output,UA.size,fun k hk=>UA.block k (by rw[←Ru.out];exact hk)⟩;have h11:Below w.heap.size UT Na:=⟨Nz.os,Nz.tape,Nz.output,Nz.size,fun k hk=>Nz.block k (by rw[←Ru.out];exact hk)⟩;exact(ER.out.trans h10).trans h11
        ·rw[WU];exact hrows.less (by rw[List.append_assoc];exact List.sublist_append_left _ _)
       clear xy UA cD Nz hrows WU;go_wp2
       go_roundw
       case rel=>exact⟨i+1,cnt+1,_,_,ω,by go_num,ω,Tv⟩
       case measure=>simp[intOf];omega
    ·obtain rfl:i=n:=ω
     have Q3m:¬(i:Int)<(i:Int):=ω
     have rW:Hid (Below w.heap.size w wr∧QV 82 KO (fun k:Nat×Nat=>k.1<b.n∧k.2<N) (KJ N) NT [Qb 4 1 (ς (some ⟨gk,0,none⟩) 2 2) 2 [.bool true,.bool false]] gm wr gm cnt f v (GJ (KJ N) (Lt N) (XI b M.2 ov (c+1) 0))):=by
      have:=HP.out;have e:XI b M.2 ov (c+1) 0=XI b M.2 ov c i:=by
       funext k
       rw[←HN.out,Qq9 hlt]
      rw[e];exact this
     clear HP;go_wp2
     go_roundw
     case rel=>exact⟨c+1,cnt,f,v,ω,by go_num,ω,rW⟩
     case measure=>simp[intOf];omega
  ·obtain rfl:c=2:=ω
   have hlt':¬((2:Nat):Int)<2:=ω
   have HE:Hid (Below w.heap.size w wr∧pR wr w.heap.size gm b M.2):=by
    refine⟨HP.out.1,N,NT,cnt,f,v,[Qb 4 1 (ς (some ⟨gk,0,none⟩) 2 2) 2 [.bool true,.bool false]],⟨Ir.out,rY.out⟩,?_⟩;rw[Ru.out];have:=HP.out.2
    have e:(fun k:Nat×Nat=>Xd b M.2 (Q3 b M.2) k.1 k.2)=XI b M.2 ov 2 0:=by
     funext k
     rw[vY.out];rfl
    rw[e];exact this
   clear HP;go_wp2;go_ret;exact⟨HE.out.1,gm,rfl,HE.out.2⟩
end Match
namespace Match
open Mem Tree Shape
theorem yF{l:List Nat}{i:Nat}(h:i<l.length):l.drop i=l.getD i 0::l.drop (i+1):=by
 rw[QX,List.getElem?_eq_getElem h,Option.getD_some];exact List.drop_eq_getElem_cons h
section
variable {a b:Sd}{KP XS:List Nat}{sp:Nat→Nat→List Nat}{M M':St}{l:List Nat}{i:Nat}
theorem Qby(M:St)(x:Nat)(r:List Nat):Yc a b KP XS sp M (x::r)=Yc a b KP XS sp (if QQ M.1 x then Ys a b KP XS x M (sp (M.1.getD (KP.getD x 0) 0).toNat (a.no x))else M) r:=rfl
structure LC(a b:Sd)(KP XS:List Nat)(sp:Nat→Nat→List Nat)(M:St)(l:List Nat)(M':St)(i:Nat):Prop where
 go:Yc a b KP XS sp M' (l.drop i)=Yc a b KP XS sp M l
 inv:∃m,Pk a b M' m∧∀x∈l.drop i,x<a.n∧a.sz x≤m
 N0:(l.drop i).Pairwise fun p q=>a.sz q≤a.sz p
 ext:Ext M M'
theorem LC.skip(h:LC a b KP XS sp M l M' i)(hi:i<l.length)(hf:QQ M'.1 (l.getD i 0)=false):LC a b KP XS sp M l M' (i+1):=by
 obtain⟨m,h1,h2⟩:=h.inv;have hg:=h.go;have hs:=h.N0;rw[yF hi]at hg h2 hs;refine⟨?_,⟨m,h1,fun x hx=>h2 x (UN _ hx)⟩,(List.pairwise_cons.1 hs).2,h.ext⟩;rw[←hg,Qby,if_neg (by rw[hf];decide)]
theorem LC.lt(h:LC a b KP XS sp M l M' i)(hi:i<l.length):l.getD i 0<a.n:=by
 obtain⟨m,h1,h2⟩:=h.inv;rw[yF hi]at h2;exact(h2 _ XG).1
theorem LC.step(hn:ZM a b)(hsp:∀o q,∀y∈sp o q,y<b.n∧b.no y=q)(h:LC a b KP XS sp M l M' i)(hi:i<l.length)(hf:QQ M'.1 (l.getD i 0)=true){M2:St}{ys:List Nat}(hy:sp (M'.1.getD (KP.getD (l.getD i 0) 0) 0).toNat (a.no (l.getD i 0))=ys)(h2':Ys a b KP XS (l.getD i 0) M' ys=M2):LC a b KP XS sp M l M2 (i+1):=by
 obtain⟨m,h1,h2⟩:=h.inv;have hg:=h.go;have hs:=h.N0;rw[yF hi]at hg h2 hs;rw[List.pairwise_cons]at hs;obtain⟨x1,x2⟩:=h2 _ XG;obtain⟨t1,t2⟩:=fH hn KP XS x1 x2 ys M' h1 hf (by rw[←hy];exact hsp _ _);rw[h2']at t1 t2;refine⟨?_,⟨_,t1,fun z hz=>⟨(h2 z (UN _ hz)).1,hs.1 z hz⟩⟩,hs.2,h.ext.trans t2⟩;rw[←hg,Qby,if_pos hf,hy,h2']
theorem Qq7(s:Sd)(L:List Int)(ov:List Nat)(o q:Nat):∀y∈Xd s L ov o q,y<s.n∧s.no y=q:=by
 intro y hy;unfold Xd at hy;rcases List.mem_append.1 hy with hy|hy
 all_goals
  rw[List.mem_filter,List.mem_range]at hy;simp at hy;exact⟨hy.1,hy.2.2.2.2⟩
theorem LC.start(hn:ZM a b)(h:Inv a b M):LC a b (Q3 a M.1) (Q3 b M.2) (Xd b M.2 (Q3 b M.2)) M (J7 a (Jt a M.1)) M 0:=by
 refine⟨rfl,⟨a.n+b.n,⟨h.part,fun z hz _ hf=>Gf h.c1 hz hf,fun z hz _ hf=>Gf h.c2 hz hf⟩,fun x hx=>?_⟩,(E5 _).1,Ext.refl _⟩;rw[List.drop_zero,(E5 _).2]at hx;unfold Jt at hx;rw[List.mem_filter,List.mem_range]at hx;have:=Sd.sub hx.1;exact⟨hx.1,ω⟩
theorem LC.done(h:LC a b (Q3 a M.1) (Q3 b M.2) (Xd b M.2 (Q3 b M.2)) M (J7 a (Jt a M.1)) M' (J7 a (Jt a M.1)).length):M'=Y9 a b M:=by
 have:=h.go;rw[List.drop_length]at this;exact this
theorem Qdl{s:Sd}{L:List Int}(h:s.Ok)(h0:QQ L 0=false):∀i,i≤s.n→∀q,q<i→QQ L ((Zv s L i).getD q 0)=false
 |0,_,q,hq=>ω
 |i+1,hi,q,hq=>by
  have ih:=Qdl h h0 i ω;rw[G9 ω,QX,List.getElem?_append,Zz ω];split
  ·rename_i h1
   rw[←QX];exact ih q h1
  ·rw[show q-i=0 by omega];show QQ L (if _ then _ else _)=false;by_cases hi0:i=0
   ·subst hi0;rw[if_pos (.inl rfl),Sd.EF h];exact h0
   ·obtain⟨p,h1,h2⟩:=Sd.EE h ω (show i<s.n by omega);by_cases hf:QQ L (s.par.getD i 0).toNat=false
    ·rw[if_pos (.inr hf)];exact hf
    ·rw[if_neg (by rintro(h|h) <;> contradiction)];rw[h2];exact ih p h1
theorem Qk7{s:Sd}{L:List Int}(h:s.Ok)(h0:QQ L 0=false){q:Nat}(hq:q<s.n):QQ L ((Q3 s L).getD q 0)=false:=by
 rw[←Jf];exact Qdl h h0 s.n (Nat.le_refl _) q hq
theorem ń{x j:Nat}{ys:List Nat}(hj:j<ys.length)(hc:(QQ M'.2 (ys.getD j 0)&&(Va a KP x||Va b XS (ys.getD j 0)))=false):Ys a b KP XS x M' (ys.drop j)=Ys a b KP XS x M' (ys.drop (j+1)):=by
 rw[yF hj];show(if _ then _ else _)=_;rw[if_neg (by rw[hc];decide)]
theorem Ņ{x j:Nat}{ys:List Nat}(hj:j<ys.length)(hc:(QQ M'.2 (ys.getD j 0)&&(Va a KP x||Va b XS (ys.getD j 0)))=true):Ys a b KP XS x M' (ys.drop j)=QK a b M' x (ys.getD j 0):=by
 rw[yF hj];show(if _ then _ else _)=_;rw[if_pos hc]
end
theorem pR.look{W0:World}{B gm:Nat}{b:Sd}{L:List Int}(h:pR W0 B gm b L){o m:Nat}(ho:o<b.n)(hm:m<1000000)(UJ:b.n≤20000) :
 ∃v,(∀W:World,(∀k,B≤k→k<W0.heap.size→W.heap[k]?=W0.heap[k]?)→(Instr.lookup 78 (.map (some gm)) (ξ #[ι γ (o:Int),ι γ (m:Int)]) false).run Tryz.prog W=.ok v W)∧Qu W0 (In B W0.heap.size) v (Xd b L (Q3 b L) o m):=by
 obtain⟨N,NT,cnt,f,v,X,⟨hN,lK⟩,hr⟩:=h;have hd:(fun k:Nat×Nat=>k.1<b.n∧k.2<N) (o,m):=⟨ho,by show m<N;omega⟩;have hkey:Go.keyOf Tryz.prog 82 (ξ #[ι γ (o:Int),ι γ (m:Int)])=some (KO (o,m)):=rz (k:=(o,m)) (by show o≤_;omega) (by show m≤_;omega);have hmap:Vj W0 Tryz.prog 82 Zu gm cnt f:=hr.all.get (i:=0) rfl;have hg:=hr.lt;refine⟨v (KJ N (o,m)),fun W hk=>?_,?_⟩
 ·have:=Vj.look (e:=32) (t:=78) (hmap.of_block (hk gm hg.1 hg.2)) Ej Tryz.underlying78 (Us W) hkey;rw[this,hr.at_ (o,m) hd]
 ·have h1:=hr.row (lK (o,m) ho hd.2);rw[Et (rA (k:=(o,m)) hd.2)]at h1;exact h1
end Match
namespace Match
open Mem Tree
def UD(W W':World):Prop:=∀(b:Nat)(cs:Array Value)(fz:Nat×Nat),W.heap[b]?=some (θ cs 24 fz)→W'.heap[b]?=some (θ cs 24 fz)
section
variable {X Y Z W W':World}
theorem UD.refl(W:World):UD W W:=fun _ _ _ h=>h
theorem UD.trans(h:UD X Y)(k:UD Y Z):UD X Z:=fun b cs fz e=>k b cs fz (h b cs fz e)
theorem UD.below(h:Below W.heap.size W W'):UD W W':=fun b cs fz e=>(h.block b (Array.getElem?_eq_some_iff.1 e).1).trans e
theorem UD.put(W:World)(l:Nat)(o o':Obj)(h:W.heap[l]? = some o)(hc:o.isCells=false):UD W (W.putObj l o'):=fun b cs fz e=>(World.putObj_heap_other (fun q=>by
 subst q;rw[h]at e;cases e
 cases hc)).trans e
theorem UD.grown{row:Option Nat}(hg:X.grownBy Y row)(hr:∀r,row=some r→∀(cs:Array Value)(T:TypeId)(fz:Nat×Nat),X.heap[r]?=some (θ cs T fz)→T≠24):UD X Y:=fun b cs fz e =>
 (hg.block b (Array.getElem?_eq_some_iff.1 e).1 (fun q=>hr b q.symm cs _ fz e rfl)).trans e
end
structure VU where
 i:Nat
 k:Int
 x:ByteArray
 y:ByteArray
 A:Option Addr
 n:Nat
 C:Nat
def po(t:VU):Array Value:=#[ι γ (t.i:Int),ξ #[ι γ t.k,σ t.x,σ t.y,ς t.A t.n t.C]]
def bK(L:List Nd)(t:VU)(W:World):Prop:=∃nd,L[t.i]?=some nd∧nd.k=t.k
theorem Qop{w:World}{S:Nat→Prop}{g n C:Nat}{L:List Nd}(h:Zs w S (ς (some ⟨g,0,none⟩) n C) L):∃(cs:Array Value)(fz:Nat×Nat),w.heap[g]?=some (θ cs 24 fz):=by
 obtain⟨ps,_,ho,_⟩:=h;rcases ho.2 with⟨e,_⟩|⟨g',cap,cur,e,_,hh,_⟩
 ·cases e
 ·injection e with e1 _ _;injection e1 with e1;injection e1 with e1 _ _;subst e1;exact⟨_,_,hh⟩
theorem Qt3(n:Nat)(hn:1≤n)(l g:Nat)(k:Int)(x y:ByteArray)(A:Option Addr)(nA C:Nat)(c:F)(hbig:c.size≤100000)(J Jx:List VU→World→Prop)(W:World)
 (hJ:AbidesFrom W.heap.size J)
 (hY:∀pre t W1,J pre W1→bK (⟨k,x,y,c⟩::nodes c) t W1→(pre++[t]).map VU.i=List.range (pre++[t]).length→pre.length<(⟨k,x,y,c⟩::nodes c:List Nd).length→YieldAt Fence.wide (n-1) Tryz.prog l (po t) W1 fun e W' =>
  (e=ρ (τ true)∧J (pre++[t]) W'∧UD W1 W')∨(e=ρ (τ false)∧Jx (pre++[t]) W'))
 (JF:Tree.Boxed W g k x y (ς A nA C)) (hf:Fs W (Lo W.heap.size) (ς A nA C) c) (h0:J [] W) :
 CallsIn Fence.wide n Tryz.prog 75 #[.func (.yield l) #[] #[],π (some ⟨g,0,none⟩)] W fun e W'=>(∃v,e = ρ v)∧
  ((∃ys,ys.map VU.i=List.range (⟨k,x,y,c⟩::nodes c:List Nd).length∧J ys W')∨(∃pre,pre.map VU.i=List.range pre.length∧Jx pre W')):=by
 obtain⟨p0,p1,p2,p3⟩:=JF.cells;obtain⟨L,hL⟩:=Mem.QD ((⟨k,x,y,c⟩::nodes c:List Nd));have HL:=QA hL;have hY:=QA hY;have HJ:=QA hJ;have H0:=QA h0;have HC:=QA (callsIn_wide.2 (Qe8 c.size k x y A nA C c W (Nat.le_refl _) hbig hf):CallsIn Fence.wide (n-1) _ _ _ _ _);clear JF hf hJ h0;refine callsIn_of_wp Tryz.func75 rfl trivial ?_ rfl;simp only[Tryz.ntmps75,List.size_toArray,GW,List.length_nil,Nat.reduceAdd,Nat.reduceSub,Array.replicate_succ,Array.replicate_zero,List.push_toArray,List.append_toArray,List.nil_append,List.cons_append]
 gi_wp2
 refine⟨trivial,HC.out.mono ?_⟩;rintro e W1 ⟨hb1,A1,n1,C1,rfl,Pe⟩;have Z':=QA hb1;have UO:=QA (callsIn_wide.2 (Qke W.heap.size k x y A1 n1 C1 c W1 hbig (Pe.more fun b hb=>hb)):CallsIn Fence.wide (n-1) _ _ _ _ _);clear hb1 Pe HC
 gi_wp2
 refine⟨trivial,UO.out.mono ?_⟩;rintro e W2 ⟨hb2,av,ln,Cv,rfl,EI,hg2⟩;rw[HL.out]at EI;have hlen:L.length=ln:=by obtain⟨a,c',e,_,_⟩:=EI.slice;injection e with _ e2 _;exact e2.symm
 have yN:=QA hlen;have XC:=VO Z' hb2;have HO:=QA EI;have H02:=QA (HJ.out [] W W2 none H0.out (Jh XC.out none) (fun r e=>by cases e));have mL:ln≤100001:=by have:=Qj c;rw[←hlen,←hL,GW];omega
 have Rc:Hid ((nodes c).length+1=ln):=by show _=_;rw[←hlen,←hL,GW]
 clear hb2 EI hg2 UO H0 hlen hL
 gi_wp2
 gi_loopw [3,4,9] (fun _ _ i wr=>∃(j:Nat)(pre:List VU),j≤ln∧i = ι γ j∧Hid (pre.map VU.i=List.range j)∧Hid (J pre wr)∧Hid (UD W2 wr))
  (fun _ _ i _=>ln-(intOf i).toNat)
 case atStart=>exact⟨0,[],Nat.zero_le _,rfl,rfl,H02.out,UD.refl _⟩
 case round =>
  rename World=>W3
  obtain⟨j,pre,hj,rfl,hpre,hJs,lD⟩:=hrel;by_cases hlt:j<ln
  ·obtain⟨nd,hnd⟩:∃nd,L[j]?=some nd:=⟨_,List.getElem?_eq_getElem (by rw[yN.out];exact hlt)⟩;obtain⟨g2,s,rfl,hg2,c0,c1,c2,c3,VX⟩:=HO.out.at_ hnd;obtain⟨cs,fz,hblk⟩:=Qop HO.out;have hbk:=(lD.out g2 cs fz hblk).trans hblk.symm;have d0:=(JW (a:=⟨g2,j*4,none⟩) hbk).trans c0;have d1:=(JW (a:=⟨g2,j*4+1,none⟩) hbk).trans c1;have d2:=(JW (a:=⟨g2,j*4+2,none⟩) hbk).trans c2;have d3:=(JW (a:=⟨g2,j*4+3,none⟩) hbk).trans c3;obtain⟨kk,xx,yy,cc⟩:=nd;obtain⟨sa,sC,rfl,_,_⟩:=VX.slice;generalize hm:(Nd.mk kk xx yy cc).c.len=m at *;clear hm;have b4:=Qa W3 (θ #[ι γ kk,σ xx,σ yy,ς sa m sC] 24);have O9:=HJ.out pre W3 _ none hJs.out (Jh b4 none) (fun r e=>by cases e);have hpl:pre.length=j:=by have:=congrArg List.length hpre.out;simpa using this
   have TE:Hid ((pre++[(⟨j,kk,xx,yy,sa,m,sC⟩:VU)]).map VU.i=List.range (j+1)):=by show _=_;rw[List.map_append,hpre.out,List.range_succ];rfl
   obtain⟨fn,tmps,assign,body,hy,dm⟩:=hY.out pre ⟨j,kk,xx,yy,sa,m,sC⟩ _ O9 ⟨_,by rw[HL.out];exact hnd,rfl⟩ (by rw[TE.out,List.length_append,hpl,List.length_singleton]) (by rw[hpl,HL.out,yN.out];exact hlt);dsimp only[po]at hy dm;have uM:=QA (lD.out.trans (UD.below b4));have HR:=QA dm;have hlt':(j:Int)<(ln:Int):=ω
   clear hpl b4 O9 hbk hblk c0 c1 c2 c3 VX hnd dm
   gi_wp2
   refine HR.out.mono ?_;rintro e W5 (⟨rfl,hJ3,hk3⟩|⟨rfl,WV⟩)
   ·have Wx:=QA (uM.out.trans hk3);have hJ3:=QA hJ3;clear hk3
    gi_wp2
    go_roundw
    case rel=>exact⟨j+1,_,ω,by go_num,TE.out,hJ3.out,Wx.out⟩
    case measure=>simp[intOf];omega
   ·have WV:=QA WV
    gi_wp2
    refine bodyPost_ret (results_none rfl _ _ _) rfl ?_;refine⟨⟨_,rfl⟩,.inr ⟨_,?_,WV.out⟩⟩;rw[TE.out];have:=congrArg List.length TE.out;rw[List.length_map,List.length_range]at this;rw[this]
  ·obtain rfl:j=ln:=ω
   have hge:¬(j:Int)<(j:Int):=ω
   gi_wp2
   go_end0
   exact⟨⟨_,rfl⟩,.inl ⟨_,by rw[←List.range_succ,Nat.succ_eq_add_one,show(nodes c).length+1=j from Rc.out];exact hpre.out,hJs.out⟩⟩
theorem Ql5(n:Nat)(hn:1≤n)(g:Nat)(k:Int)(x y:ByteArray)(A:Option Addr)(nA C:Nat)(c:F)(hbig:c.size≤100000)(w:World)
 (JF:Tree.Boxed w g k x y (ς A nA C)) (hf:Fs w (Lo w.heap.size) (ς A nA C) c) :
 iP n Tryz.prog 75 #[π (some ⟨g,0,none⟩)] po (bK (⟨k,x,y,c⟩::nodes c)) UD (fun ys=>ys.map VU.i=List.range (c.size+1)) (fun pre=>pre.map VU.i=List.range pre.length) (c.size+1) w:=fun l J Jx W hW hJ _ hY h0=>by
 have hl:(⟨k,x,y,c⟩::nodes c:List Nd).length=c.size+1:=by rw[GW,Qj]
 have:=Qt3 n hn l g k x y A nA C c hbig J Jx W hJ (by rw[hl];exact hY) (JF.below hW JF.lt) (hf.later hW) h0;rwa[hl]at this
open Shape
attribute [local go_sem] Oper.semAt_some
theorem Qpz{F:Fence}{n:Nat}(w:World){ops:Array Oper}{rest:List Oper}{o:Oper}{a:Act}{Q:Exit→Act→World→Prop}(hgd:o.guard=none)(s x:Operand)
 (ho:o.op=.call { callee:=.builtin .append,args:=#[s,x],argTypes:=#[32,32] }) (base:Nat) (v:Value) (m:Nat) (vs:List Value) (line:Value) (hs:a.eval s=v)
 (hown:w.ownsRow base 3 1 v m vs) (h1:line.oneCell'=true) (g:Nat) (hg:g=w.heap.size) (hx:a.eval x=ς (some ⟨g,0,none⟩) 1 1) (h63:m≤1000000000) (hbase:base≤w.heap.size)
 (h:∀v' w',w'.ownsRow base 3 1 v' (m+1) (vs++[line])→(w.alloc (θ #[line] 3)).grownBy w' v.ownBlock→wpListIn F n prog ops Q rest (a.put o.dst v') w') :
 wpListIn F n prog ops Q (o::rest) a (w.alloc (θ #[line] 3)):=by
 obtain⟨i0,hi0,hz0,hz1,hz2⟩:=info_parts Zq;subst hg;refine wpListIn_plain hgd fun K hK=>?_
 obtain⟨v',w',hr,h2,h3,_,h5⟩:=run_append_own_at (P:=prog) (w.alloc (θ #[line] 3)) base 32 o.type 3 i0 (ι γ 0) 1 8 underlying32 hi0 hz0 hz1 hz2 rfl δ v m vs (hown.alloc _) ⟨w.heap.size,0,none⟩ 1 1 [line] rfl (cell_one_new _ _ _) (by simp[h1]) (by unfold maxLen;omega) ω (by simp;omega);unfold Oper.wpIn;refine⟨?_,?_⟩
 ·simp[Oper.about,ho,resolve,Target.leads,Sem.run_pure]
 ·rw[Oper.semAt_plain F _ _ (by rw[ho];intro c hc';cases hc')];simp[execOp,ho,resolve,invoke,builtin,hs,hx,hr,Result.andThen];exact hK _ _ (h v' w' h2 h3)
theorem Y2{w w':World}{B n:Nat}{v:Value}{xs:List Value}{E:TypeId}(h:w.ownsRow B E 1 v n xs)(hk:∀(k:Nat)(cs:Array Value)(fz:Nat×Nat),w.heap[k]?=some (θ cs E fz)→w'.heap[k]?=some (θ cs E fz)):w'.ownsRow B E 1 v n xs:=by
 refine⟨h.1,?_⟩;rcases h.2 with hn|⟨g,cap,cur,e,h1,h2,h3⟩
 ·exact .inl hn
 ·exact .inr ⟨g,cap,cur,e,h1,hk _ _ _ h2,h3⟩
theorem Ĵ{w:World}{B n:Nat}{v:Value}{xs:List Value}{E:TypeId}(h:w.ownsRow B E 1 v n xs):∀(j:Nat)(o:Obj),v.ownBlock=some j→w.heap[j]?=some o→∃cs fz,o=θ cs E fz:=by
 intro j o hj ho;rcases h.2 with⟨rfl,_⟩|⟨g,cap,cur,rfl,_,hg,_⟩
 ·simp[Value.ownBlock]at hj
 ·simp only[Value.ownBlock,Option.some.injEq]at hj;subst hj;rw[hg]at ho;cases ho
  exact⟨_,_,rfl⟩
theorem Jy{w:World}{B n:Nat}{v:Value}{xs:List Value}{E:TypeId}(h:w.ownsRow B E 1 v n xs):∃A c,v=ς A n c:=by
 rcases h.2 with⟨rfl,h0⟩|⟨g,cap,cur,rfl,_,hg,_⟩
 ·exact⟨none,0,by rw[h0]⟩
 ·exact⟨_,_,rfl⟩
theorem ib{w:World}{base base' size n:Nat}{E:TypeId}{v:Value}{vs:List Value}(h:w.ownsRow base E size v n vs)(hb:base'≤base):w.ownsRow base' E size v n vs:=by
 refine⟨h.1,?_⟩;rcases h.2 with hn|⟨g,cap,cur,e,h1,h2⟩
 ·exact .inl hn
 ·exact .inr ⟨g,cap,cur,e,ω,h2⟩
theorem ţ{w:World}{B n:Nat}{v:Value}{xs:List Value}{E:TypeId}(h:w.ownsRow B E 1 v n xs):∃A C,v=ς A n C∧n≤C∧C≤maxLen∧∀(i:Nat)(u:Value),xs[i]?=some u→∃g,A=some ⟨g,0,none⟩∧w.cell? ⟨g,i,none⟩=some u:=by
 have h1:=h.1;rcases h.2 with⟨rfl,h0⟩|⟨g,cap,cur,rfl,q1,q2,q3,q4,q5,q6⟩
 ·refine⟨none,0,by rw[h0],ω,by unfold maxLen;omega,fun i u hi=>?_⟩;have:=(List.getElem?_eq_some_iff.1 hi).1;omega
 ·refine⟨_,cap,rfl,q3,q4,fun i u hi=>⟨g,rfl,?_⟩⟩;rw[←q6]at hi;have hi2:=hi;rw[List.getElem?_take_of_lt (by have:=(List.getElem?_eq_some_iff.1 hi).1;rw[JS]at this;omega)]at hi2;simpa[World.cell?,q2]using hi2
theorem J5(W:World){b k:Nat}(j:Nat)(u:Value)(h:b≠k):(W.setCell ⟨b,j,none⟩ u).heap[k]?=W.heap[k]?:=Below.heap_setCell _ _ _ _ (fun e=>h (by simpa using e.symm))
theorem Qc7(w:World)(b j:Nat)(u:Value):w.grownBy (w.setCell ⟨b,j,none⟩ u) (some b) :=
 ⟨rfl,rfl,rfl,by simp[World.setCell],fun k _ hk=>Below.heap_setCell _ _ _ _ (fun e=>hk (by simp[e]))⟩
theorem yh{W:World}{g:Nat}{v:Value}{T:TypeId}(h:W.heap[g]?=some (θ #[v] T (0,0))):W.cell? ⟨g,0,none⟩=some v:=by simp[World.cell?,h]
theorem Q0c{W:World}{g:Nat}{v:Value}{T:TypeId}(h:W.heap[g]?=some (θ #[v] T (0,0))):W.frozen? ⟨g,0,none⟩=false:=by simp[World.frozen?,h]
structure KI(w:World)(z:Nat)(ks:List Value)(W:World):Prop where
 box:∃v,W.heap[z]?=some (θ #[v] 32 (0,0))∧W.ownsRow (z+1) 3 1 v ks.length ks
 QF:Below w.heap.size w W
 le:w.heap.size≤z
section
variable {w W W':World}{z:Nat}{ks:List Value}
theorem KI.same(h:KI w z ks W)(hk:∀(k:Nat)(cs:Array Value)(T:TypeId)(fz:Nat×Nat),W.heap[k]?=some (θ cs T fz)→W'.heap[k]?=some (θ cs T fz))(hb:Below w.heap.size W W'):KI w z ks W':=by
 obtain⟨v,h1,h2⟩:=h.box;exact⟨⟨v,hk _ _ _ _ h1,Y2 h2 fun k cs fz e=>hk k cs _ fz e⟩,h.QF.trans hb,h.le⟩
theorem KI.lt(h:KI w z ks W):z<W.heap.size:=by
 obtain⟨v,h1,h2⟩:=h.box;exact(Array.getElem?_eq_some_iff.1 h1).1
theorem KI.later(h:KI w z ks W)(hb:Below W.heap.size W W'):KI w z ks W' :=
 h.same (fun k cs T fz e=>(hb.block k (Array.getElem?_eq_some_iff.1 e).1).trans e) (hb.mono (by have:=h.lt;have:=h.le;omega))
theorem KI.nc(h:KI w z ks W){row:Option Nat}(hg:W.grownBy W' row)(hr:∀r,row=some r→w.heap.size≤r∧∃o:Obj,W.heap[r]?=some o∧o.isCells=false):KI w z ks W' :=
 h.same (fun k cs T fz e=>(hg.block k (Array.getElem?_eq_some_iff.1 e).1 (fun e2=>by
  obtain⟨_,o,q1,q2⟩:=hr k e2.symm;rw[e]at q1;cases q1;cases q2)).trans e) ((Below.refl _ W).grown hg (by have:=h.lt;have:=h.le;omega) (fun k e=>(hr k e).1))
theorem KI.form(h:KI w z ks W):∃A c,W.heap[z]?=some (θ #[ς A ks.length c] 32 (0,0))∧W.ownsRow (z+1) 3 1 (ς A ks.length c) ks.length ks:=by
 obtain⟨v,h1,h2⟩:=h.box;obtain⟨A,c,rfl⟩:=Jy h2;exact⟨A,c,h1,h2⟩
theorem KI.push(h:KI w z ks W){v v' line:Value}(hc:W.heap[z]?=some (θ #[v] 32 (0,0)))(hg:(W.alloc (θ #[line] 3)).grownBy W' v.ownBlock)(hlt:∀k,v.ownBlock=some k→z+1≤k)
 (ho:W'.ownsRow (z+1) 3 1 v' (ks.length+1) (ks++[line])):W'.heap[z]?=some (θ #[v] 32 (0,0))∧KI w z (ks++[line]) (W'.setCell ⟨z,0,none⟩ v'):=by
 have hs:=h.lt;have hz:=h.le;have e1:W'.heap[z]?=some (θ #[v] 32 (0,0)):=(hg.block z (by simp;omega) (fun e2=>by have:=hlt z e2.symm;omega)).trans ((Lib.alloc_old W _ z hs).trans hc);refine⟨e1,⟨v',Z8 e1 0 _,?_⟩,?_,hz⟩
 ·rw[ZU,List.length_singleton];exact ho.kept (row:=some z) (Qc7 W' z 0 v') (.inr fun e=>by have:=(ho.lt z e).1;omega)
 ·exact(h.QF.trans (((Below.refl _ W).alloc ω _).grown hg (by simp;omega) (fun k e=>by have:=hlt k e;omega))).setCell (p:=⟨z,0,none⟩) hz _
end
theorem Qk0{W w2:World}{z i:Nat}{v line:Value}{ks:List Value}(ho:W.ownsRow (z+1) 3 1 v i ks)(hg:(W.alloc (θ #[line] 3)).grownBy w2 v.ownBlock){u:Value}:KeepsOthers W (w2.setCell ⟨z,0,none⟩ u) :=
 ((KeepsOthers.alloc W _).trans (KeepsOthers.of_grownBy hg fun j o e h=>by obtain⟨cs,fz,rfl⟩:=Ĵ (ho.alloc _) j o e h;rfl)).trans (KeepsOthers.setCell w2 _ _)
theorem Qry{W w2:World}{z i:Nat}{v line:Value}{ks:List Value}(ho:W.ownsRow (z+1) 3 1 v i ks)(hg:(W.alloc (θ #[line] 3)).grownBy w2 v.ownBlock){u v':Value}(hz:w2.heap[z]?=some (θ #[v'] 32 (0,0))):UD W (w2.setCell ⟨z,0,none⟩ u) :=
 ((UD.below (Qa W _)).trans (UD.grown hg fun r e cs T fz h=>by
   obtain⟨cs',fz',e2⟩:=Ĵ (ho.alloc _) r _ e h;injection e2 with _ e3 _;rw[e3];decide)).trans (UD.grown (Qc7 w2 z 0 u) fun r e cs T fz h=>by
   injection e with e;subst e;rw[hz]at h;injection h with h;injection h with _ e3 _;rw[←e3];decide)
def Q0e(Fin:World→Prop):Exit→Act→World→Prop
 | .normal,_,W=>Fin W
 |_,_,_=>False
theorem Qog{pre:List VU}{t:VU}(h:(pre++[t]).map VU.i=List.range (pre++[t]).length):pre.length=t.i:=by
 rw[List.map_append,ZU,List.length_singleton,List.range_succ]at h;have:=(List.append_inj' h rfl).2;simp at this;exact this.symm
theorem Qny{L:List Nd}{i:Nat}{nd:Nd}(h:L[i]?=some nd):iV ((kinds L).take (i+1))=iV ((kinds L).take i)++[ι γ nd.k]:=by
 have h2:(kinds L)[i]?=some nd.k:=by simp[kinds,h]
 rw[List.take_add_one,h2];simp[iV]
theorem Qb0(k:Int)(x y:ByteArray)(A:Option Addr)(n C:Nat)(c:F)(w:World)(hbig:c.size≤100000)(hf:Fs w (Lo w.heap.size) (ς A n C) c) :
 Calls prog 36 #[ξ #[ι γ k,σ x,σ y,ς A n C]] w fun e w'=>Below w.heap.size w w'∧∃v,e=ρ v∧w'.ownsRow w.heap.size 3 1 v (iV (Zy (one k x y c))).length (iV (Zy (one k x y c))):=by
 suffices h:CallsIn Fence.wide 5 prog 36 #[ξ #[ι γ k,σ x,σ y,ς A n C]] w (fun e w'=>Below w.heap.size w w'∧∃v,e=ρ v∧w'.ownsRow w.heap.size 3 1 v (iV (Zy (one k x y c))).length (iV (Zy (one k x y c))))from callsIn_wide.1 h
 have gp:nodes (one k x y c)=⟨k,x,y,c⟩::nodes c:=by simp[one,nodes]
 obtain⟨L,hL⟩:=Mem.QD ((⟨k,x,y,c⟩::nodes c:List Nd));have O6:L.length=c.size+1:=by rw[←hL,List.length_cons,Qj]
 have F9:Zy (one k x y c)=kinds L:=by unfold Zy;rw[gp,hL]
 rw[F9];have b2:=Qt w (θ #[ι γ k,σ x,σ y,ς A n C] 24) (θ #[ς none 0 0] 32);have KB:=QA ((Vc w k x y (ς A n C)).below (Qa (w.alloc (θ #[ι γ k,σ x,σ y,ς A n C] 24)) (θ #[ς none 0 0] 32)) ψ);have HAl:=QA (Qwy k x y A n C c _ hbig (hf.later b2));have EP:Hid (KI w (w.heap.size+1) [] ((w.alloc (θ #[ι γ k,σ x,σ y,ς A n C] 24)).alloc (θ #[ς none 0 0] 32))):=by
  refine⟨⟨ς none 0 0,?_,World.ownsRow_nil _ _ _ _⟩,b2,ω⟩;have e:w.heap.size+1=(w.alloc (θ #[ι γ k,σ x,σ y,ς A n C] 24)).heap.size:=ψ
  rw[e];exact heap_alloc_new _ _
 obtain⟨z,hz⟩:=Mem.QD (w.heap.size+1);obtain⟨p0,p1,p2,p3⟩:=KB.out.cells;have HLm:=QA O6;have HL:=QA hL;have Ty:=QA hbig;clear hf b2 gp O6 F9 hbig;refine callsIn_of_wp_marks func36 rfl trivial ?_ rfl;simp only[ntmps36,List.size_toArray,List.length_cons,List.length_nil,Nat.reduceAdd,Nat.reduceSub,Array.replicate_succ,Array.replicate_zero,List.push_toArray,List.append_toArray,List.nil_append,List.cons_append]
 gi_wp2
 refine⟨trivial,(callsIn_wide.2 HAl.out).mono ?_⟩;rintro e wA ⟨Oo,g,A1,n1,C1,rfl,Ol,JF,VX⟩;have QO:=QA (EP.out.later Oo);have hwA:w.heap.size≤wA.heap.size:=QO.out.QF.size;clear p0 p1 p2 p3 HAl KB EP;rw[hz]at QO
 gi_wp2
 refine Qkx (n:=5) ω (gf:=75) (lb := #[π (some ⟨g,0,none⟩)]) rfl (enters_of func75 χ rfl)
  (Ql5 4 ω g k x y A1 n1 C1 c Ty.out wA JF (VX.more fun b hb=>hb.2)) (fun h k=>h.trans k) (fun W l o o' h1 h2 h3 h4=>UD.put W l o o' h2 h3) (fun _=>rfl)
  (fun pre W=>KI w z (iV ((kinds L).take pre.length)) W)
  (fun _ _ _=>False) (fun W=>KI w z (iV (kinds L)) W)
  (fun s X Y row hs hg hr=>hs.nc hg fun r e=>⟨by have:=(hr r e).1;omega,(hr r e).2⟩)
  (fun _ _ _ _ _ hs _ _=>hs)
  QO.out
  (fun t b W=>bK L t W∧W.heap[b]?=some (θ #[ι γ t.k,σ t.x,σ t.y,ς t.A t.n t.C] 24 (0,0)))
  (fun t b _ X Y row hs hg hr=>⟨hs.1,(grownBy_keeps_cells hg (fun r e=>(hr r e).2) hs.2 rfl).trans hs.2⟩)
  (fun ys W hS hi=>by
   have hl:=congrArg List.length hS;rw[List.length_map,List.length_range]at hl;rw[hl,List.take_of_length_le (by rw[Uv,HLm.out];exact Nat.le_refl _)]at hi;exact hi)
  (fun c pre W _ hi=>hi.elim)
  ?round ?rest
 case round =>
  rintro⟨i,kk,xx,yy,sa,sn,sC⟩ b;dsimp only[po];apply Exists.intro;refine⟨?_,?_⟩
  ·intro l pre W K hWb hi hR hsp hlt hK;have PV:=Qa W (θ #[ι γ kk,σ xx,σ yy,ς sa sn sC] 24);have UJ:(W.alloc (θ #[ι γ kk,σ xx,σ yy,ς sa sn sC] 24)).heap[W.heap.size]?=_:=heap_alloc_new W _;rw[HL.out]at hR;have HK:=QA (hK _ (KeepsFrom.of_grownBy (Jh PV none) (fun j e=>by cases e)) (UD.below PV) (hi.later PV) ⟨hR,by rw[←hWb];exact UJ⟩);clear hK hi hR hsp hlt PV UJ
   gi_wp2
   exact HK.out
  ·intro l pre W0 hi gH hsp hlt;obtain⟨⟨nd,q1,q2⟩,hbk⟩:=gH;dsimp only at q1 q2 hbk;have hpl:pre.length=i:=Qog hsp;have him:i<L.length:=(List.getElem?_eq_some_iff.1 q1).1;have Q21:i≤100000:=by have:=HLm.out;have:=Ty.out;omega
   have hlk:(iV ((kinds L).take i)).length=i:=by rw[Xh,JS,Uv];omega
   rw[hpl]at hi;obtain⟨A5,c5,AU,CG⟩:=hi.form;rw[hlk]at AU CG;have r0:=yh AU;have c0:W0.cell? ⟨b,0,none⟩=some (ι γ kk):=by simp[World.cell?,hbk]
   have hzW:=hi.lt;have HP:=QA hi;have ag:=QA AU;have OS:=QA CG;have Ba:=QA hlk
   have XB:Hid (∀W',KeepsOthers W0 W'→UD W0 W'→KI w z (iV ((kinds L).take i)++[ι γ kk]) W'→KeepsFrom wA.heap.size W0 W'∧UD W0 W'∧KI w z (iV ((kinds L).take (pre++[(⟨i,kk,xx,yy,sa,sn,sC⟩:VU)]).length)) W'):=fun W' h1 h2 h3=>by
    refine⟨h1.from _,h2,?_⟩;rw[ZU,List.length_singleton,hpl,Qny q1,q2];exact h3
   obtain⟨Fin,WW⟩:∃Fin:World→Prop,(fun W'=>KeepsFrom wA.heap.size W0 W'∧UD W0 W'∧KI w z (iV ((kinds L).take (pre++[(⟨i,kk,xx,yy,sa,sn,sC⟩:VU)]).length)) W')=Fin:=⟨_,rfl⟩;have SG:Hid (∀W',KeepsOthers W0 W'→UD W0 W'→KI w z (iV ((kinds L).take i)++[ι γ kk]) W'→Fin W'):=fun W' h1 h2 h3=>by rw[←WW];exact XB.out W' h1 h2 h3
   refine wpIn_mono (Q:=Q0e Fin) ?_ (fun e a3 W3 hp=>by
    subst WW;cases e with
    |normal=>exact hp
    |ret=>exact hp.elim
    |exit id=>exact hp.elim
    |goto t=>exact hp.elim
    |panic ch=>exact hp.elim
    |outgrown=>exact hp.elim)
   clear WW XB hi AU CG q1 q2 hbk hpl hlk him;generalize iV ((kinds L).take i)=ks at *
   gi_wp2_with (gi_at_builtin;refine Qpz W0 rfl _ _ rfl (z+1) (ς A5 i c5) i ks (ι γ kk) rfl OS.out rfl W0.heap.size rfl rfl ω hzW ?_;intro v' w2 hown' hgrow;have hp:=HP.out.push ag.out hgrow (fun q e=>(OS.out.lt q e).1) (by rw[Ba.out];exact hown');have Q3a:=yh hp.1;have Q25:=Q0c hp.1;have HX:=QA (SG.out _ (Qk0 OS.out hgrow) (Qry OS.out hgrow hp.1) hp.2);obtain⟨gq,cq,rfl⟩:=Jy hown';clear hown' hgrow hp)
   exact HX.out
 case rest =>
  intro D W hD hJ hK;have hn:=KI.nc hJ (grownBy_putObj' W D (.deferred none)) (fun r e=>by cases e;exact⟨ω,_,hK,rfl⟩);obtain⟨v,JF,_⟩:=hJ.box;have hc:=yh JF;have hD':(W.putObj D (.deferred none)).heap[z]?=some (θ #[v] 32 (0,0)):=(World.putObj_heap_other (fun e=>by subst e;rw[hK]at JF;cases JF)).trans JF;obtain⟨v',hc',hs⟩:=hn.box;have e1:=yh hc';rw[yh hD']at e1;cases e1
  replace hs:=ib hs (base':=w.heap.size) ω;have HE:=QA hn;have HS:=QA hs;clear hJ hn hs hD' JF hc'
  gi_wp2
  refine⟨ψ,.inl ⟨_,_,rfl,run_takeDeferred hK,?_⟩⟩;refine⟨_,results_tmp rfl _ _ _,?_⟩;exact⟨HE.out.QF,_,rfl,HS.out⟩
