import Derived.Test.YtmepekognmlblaaGreatDoorP41
import Derived.Test.YtmepekognmlblaaGreatDoorP44
set_option maxHeartbeats 32000000
set_option maxRecDepth 100000
set_option linter.unusedVariables false
open Go.ChangeShapes Go.WideShapes Go.ChangeAt Go.RowKit Go.Proofs.Tryz
open Go.Lib renaming hid→QA
open _root_.Nat renaming le_refl→QI,zero_le→ZR
open _root_.List renaming getD_eq_getElem?_getD→QX,getElem?_eq_none→YP,getElem?_cons_succ→GV,mem_cons_self→XG,mem_cons_of_mem→UN
open Go.World renaming block_lt_of_cell?→VJ
open Go.Value renaming string→σ,int→ι,slice→ς,pointer→π,bool→τ,agg→ξ
open Go.IntKind renaming i64→γ
open Go.Obj renaming cells→θ
open Go.Ending renaming returned→ρ
namespace Go.Proofs.YtmepekognmlblaaGreatDoor
namespace Match
open Mem Tree Shape
def bQ:F→Prop
 | .nil=>True
 | .cons k x y c r=>(-9223372036854775808≤k∧k≤9223372036854775807)∧bQ c∧bQ r
def pA(k:Int)(x y:ByteArray)(c:F):Prop:=x.size≤1000000∧y.size≤1000000∧Zp c∧bQ (one k x y c)
def SN(n:Nat):List P2:=(List.range n).map fun(i:Nat)=>((i:Int),(i:Int))
def Zy(T:F):List Int:=kinds (nodes T)
structure vJ(XF:World→Prop)(Rt:Int→ByteArray→ByteArray→F→Prop)(mt:F→F→List P2):Prop where
 keep:∀w w',XF w→Below w.heap.size w w'→XF w'
 of_:∀(k:Int)(x y:ByteArray)(A:Option Addr)(n C:Nat)(c:F)(k':Int)(x' y':ByteArray)(A':Option Addr)(n' C':Nat)(c':F)(w:World),XF w→Fs w (Lo w.heap.size) (ς A n C) c→Fs w (Lo w.heap.size) (ς A' n' C') c'→
  c.size≤20010→c'.size≤20010→pA k x y c→pA k' x' y' c'→
  Calls Tryz.prog 12 #[ξ #[ι γ k,σ x,σ y,ς A n C],ξ #[ι γ k',σ x',σ y',ς A' n' C']] w fun e w'=>Below w.heap.size w w'∧
   ∃v,e=ρ (.tuple #[v,ι γ (if 20000≤c.size∨20000≤c'.size then 2 else 0)])∧Qm w' (In w.heap.size w'.heap.size) v (mt (one k x y c) (one k' x' y' c'))
 tH:∀(k:Int)(x y:ByteArray)(A:Option Addr)(n C:Nat)(c:F)(k':Int)(x' y':ByteArray)(A':Option Addr)(n' C':Nat)(c':F)(Al:Option Addr)(Cl:Nat)(L:List P2)(w:World),XF w→Fs w (Lo w.heap.size) (ς A n C) c→Fs w (Lo w.heap.size) (ς A' n' C') c'→
  Qm w (Lo w.heap.size) (ς Al L.length Cl) L→c.size≤20010→c'.size≤20010→L.length≤100000→pA k x y c→pA k' x' y' c'→
  Calls Tryz.prog 21 #[ξ #[ι γ k,σ x,σ y,ς A n C],ξ #[ι γ k',σ x',σ y',ς A' n' C'],ς Al L.length Cl] w fun e w'=>e=ρ (τ (Z9 (Zy (one k x y c)) (Zy (one k' x' y' c')) L))∧Below w.heap.size w w'
 long:∀(k:Int)(x y:ByteArray)(c:F)(k':Int)(x' y':ByteArray)(c':F),20000≤c.size∨20000≤c'.size→mt (one k x y c) (one k' x' y' c')=[]
 tv:∀(k:Int)(x y:ByteArray)(c:F)(k':Int)(x' y':ByteArray)(c':F),k≠k'→mt (one k x y c) (one k' x' y' c')=[]
 is_:∀(k:Int)(x y:ByteArray)(c:F)(x' y':ByteArray)(c':F),c.size<20000→c'.size<20000→Z9 (Zy (one k x y c)) (Zy (one k x' y' c')) (mt (one k x y c) (one k x' y' c'))=true
 self:∀(k:Int)(x y:ByteArray)(c:F),c.size<20000→mt (one k x y c) (one k x y c)=SN (c.size+1)
 Q3g:∀(k:Int)(x y:ByteArray)(c:F)(x' y':ByteArray)(c':F),c.size<20000→c'.size<20000→Rt k x y c→Rt k x' y' c'→∀p∈Qwx c c',p∈mt (one k x y c) (one k x' y' c')∧
  ∀nd,(nodes (one k x y c))[p.1.toNat]?=some nd→(nodes (one k x' y' c'))[p.2.toNat]?=some nd→∀j:Nat,j<nd.c.size+1→(p.1+(j:Int),p.2+(j:Int))∈mt (one k x y c) (one k x' y' c')
theorem Qxc{w:World}{base:Nat}{e:TypeId}{size n:Nat}{v:Value}{xs:List Value}(h:w.ownsRow 0 e size v n xs)(hb:∀k,v.ownBlock=some k→base≤k):w.ownsRow base e size v n xs:=by
 refine⟨h.1,?_⟩;rcases h.2 with h' |⟨g,cap,cur,a,b,r⟩
 ·exact .inl h'
 ·exact .inr ⟨g,cap,cur,a,hb g (by rw[a];rfl),r⟩
theorem iG(k:Int)(x y:ByteArray)(A:Option Addr)(n C:Nat)(c:F)(m:Nat)(w:World)(hf:Fs w (Lo w.heap.size) (ς A n C) c)(hc:c.size+1≤m)(hm:m≤10000) :
 Calls Tryz.prog 14 #[ξ #[ι γ k,σ x,σ y,ς A n C],ι γ (m:Int)] w fun e w'=>Below w.heap.size w w'∧
  ∃AN CN vP vS vK,e=ρ (ξ #[ς AN (nodes (one k x y c)).length CN,vP,vS,vK])∧Fs w' (Lo w'.heap.size) (ς AN (nodes (one k x y c)).length CN) (YG (nodes (one k x y c))):=by
 have h:=Qrw k x y A n C c m w w.heap.size (Nat.le_refl _) hf ω ω;refine h.mono fun e w' hp=>?_
 obtain⟨hb,vN,vP,vS,vK,us,nps,he,hF,hn,hk,hl⟩:=hp;have ho:w'.ownsRow 0 24 4 vN nps.length (nps.flatMap VC):=hF.get (i:=0) rfl;have EI:w'.ownsRow w.heap.size 24 4 vN nps.length (nps.flatMap VC):=Qxc ho fun k hk=>hF.ge _ (List.mem_of_getElem? (show(D3 vN vP vS vK nps (Jn (-1) 0 (one k x y c)) (Zt (one k x y c)) us us (Z7 0 (one k x y c)))[0]?=some _ from rfl)) k hk
 have hlen:nps.length=(nps.map (·.1)).length:=ψ
 have VX:Fs w' (Lo w'.heap.size) vN (YG (nodes (one k x y c))):=by rw[←hn];exact ø (B:=w.heap.size) (base:=w.heap.size) ⟨nps,rfl,by rw[←hlen];exact EI,fun p hp=>(hk p hp)⟩ (fun b hb'=>Nat.lt_of_lt_of_le hb' hb.size) (fun g h1 h2=>h2)
 obtain⟨AN,CN,rfl,_,_⟩:=VX.slice;rw[rh]at VX;exact⟨hb,AN,CN,_,_,_,by rw[he,rh],VX⟩
theorem J6(w:World)(k:Int)(x y:ByteArray)(s:Value):∀W,Below (w.alloc (θ #[ι γ k,σ x,σ y,s] 24)).heap.size (w.alloc (θ #[ι γ k,σ x,σ y,s] 24)) W→
 W.cell? ⟨w.heap.size,0,none⟩=some (ι γ k)∧W.cell? ⟨w.heap.size,1,none⟩=some (σ x)∧W.cell? ⟨w.heap.size,2,none⟩=some (σ y)∧W.cell? ⟨w.heap.size,3,none⟩=some s:=fun W hW=>by
 have h:W.heap[w.heap.size]?=_:=(hW.block w.heap.size ψ).trans (heap_alloc_new w _);refine⟨?_,?_,?_,?_⟩ <;> simp[World.cell?,h]
def vq(k:Int)(x y:ByteArray)(c:F):Bool:=OB k x y c&&decide (c.size+1≤400)
theorem ł{k:Int}{x y:ByteArray}{c:F}(h:vq k x y c=true):c.size+1≤400∧x.size≤1000000∧y.size≤1000000∧Zp c:=by
 unfold vq at h;rw[Bool.and_eq_true,decide_eq_true_eq]at h;have hi:=Qy3 h.1;exact⟨h.2,by have:=hi.hx;omega,by have:=hi.hy;omega,hi.sm⟩
theorem ė(k:Int)(x y:ByteArray)(A:Option Addr)(n C:Nat)(c:F)(w:World)(hf:Fs w (Lo w.heap.size) (ς A n C) c) :
 Calls Tryz.prog 10 #[ξ #[ι γ k,σ x,σ y,ς A n C]] w fun e w'=>e=ρ (τ (vq k x y c))∧Below w.heap.size w w':=by
 have b1:=Qz w (θ #[ι γ k,σ x,σ y,ς A n C] 24);have HF:=Lib.hid (Qwh k x y A n C c _ (hf.later b1));have Z':=Lib.hid b1;have hq:=J6 w k x y (ς A n C)
 have HS:Hid (∀W,Below (w.alloc (θ #[ι γ k,σ x,σ y,ς A n C] 24)).heap.size (w.alloc (θ #[ι γ k,σ x,σ y,ς A n C] 24)) W→Calls Tryz.prog 16 #[ξ #[ι γ k,σ x,σ y,ς A n C],ι γ 401] W fun e w'=>e = ρ (ι γ ((min (c.size+1) 401:Nat):Int))∧Below W.heap.size W w'):=fun W hW =>
  Qbr k x y A n C c 401 W ((hf.later b1).later hW) ω ω
 have HV:Hid (vq k x y c=(OB k x y c&&decide (((min (c.size+1) 401:Nat):Int)≤400))):=by
  show _=_;unfold vq
  congr 1
  rw[decide_eq_decide];omega
 obtain⟨q0,q1,q2,q3⟩:=hq _ (Below.refl _ _);have HQ:=Lib.hid hq;generalize OB k x y c=fb at *;generalize min (c.size+1) 401=sz at *;clear hf b1 hq;go_enter Tryz.func10,Tryz.ntmps10;go_wp2_with fail;refine c₁ HF.out fun w1 hb=>?_;have XC:=VO Z' hb;have SA:=Lib.hid (HS.out w1 hb);obtain⟨p0,p1,p2,p3⟩:=HQ.out w1 hb;clear hb q0 q1 q2 q3 HF HS HQ;cases fb with
 |false=>go_wp2;go_ret;exact⟨by rw[HV.out];rfl,XC.out⟩
 |true=>go_wp2_with fail;refine c₁ SA.out fun w2 hb=>?_;have VG:=VO XC hb;clear hb p0 p1 p2 p3 SA;go_wp2;go_ret;exact⟨by rw[HV.out];rfl,VG.out⟩
theorem ŝ{s:Sd}{M:List Int}(h:s.Ok):∀i,i≤s.n→∀q,(Zv s M i).getD q 0<s.n
 |0,_,q=>by
  have:=h.pos;rw[QX,YP (by rw[Zz (ZR _)];omega)];exact this
 |i+1,hi,q=>by
  have ih:=ŝ (M:=M) h i ω;have hpos:=h.pos;rw[G9 ω,QX,List.getElem?_append,Zz ω];split
  ·rw[←QX];exact ih q
  ·have hp:(s.par.getD i 0).toNat<s.n:=by
    by_cases h0:i=0
    ·subst h0;rw[Sd.EF h];exact hpos
    ·obtain⟨p,h1,h2⟩:=Sd.EE h ω (show i<s.n by omega);rw[h2];omega
   by_cases hq:q-i=0
   ·rw[hq];show(if _ then _ else _)<_;split
    ·exact hp
    ·exact ih _
   ·rw[YP (by rw[List.length_singleton];omega)];exact hpos
theorem Ŝ{s:Sd}{M:List Int}(h:s.Ok)(q:Nat):(Q3 s M).getD q 0<s.n:=by
 rw[←Jf];exact ŝ h s.n (QI _) q
variable {w:World}{S:Nat→Prop}{g gA gB:Nat}{a b:Sd}{M:St}
def pR(w:World)(B gm:Nat)(b:Sd)(M:List Int):Prop :=
 ∃N NT cnt f v X,(N=1000000∧∀k:Nat×Nat,k.1<b.n→k.2<N→KJ N k<NT)∧QV 82 KO (fun k:Nat×Nat=>k.1<b.n∧k.2<N) (KJ N) NT X B w gm cnt f v (GJ (KJ N) (Lt N) fun k=>Xd b M (Q3 b M) k.1 k.2)
def Ś(z:Int):Prop:=∀u∈([.int γ z]:List Value),u.oneCell'=true
theorem Qgr(z:Int):Ś z:=fun u hu=>by rw[List.mem_singleton.1 hu];rfl
theorem Qn4{T:Nat→Prop}{vo:Value}(h:MS w S g gA gB a b M)(hf:Fit a b)(ro:Qu w T vo (Q3 b M.2))(hT:∀k,T k→k<w.heap.size) :
 Calls prog 47 #[π (some ⟨g,0,none⟩),vo] w fun e w'=>Below w.heap.size w w'∧∃gm,e=ρ (.map (some gm))∧pR w' w.heap.size gm b M.2:=by
 have JL:=QA h;have HF:=QA hf;have aC:=QA ro;have OL:=QA hT;have MD:=QA hf.nums.Hq;obtain⟨ov,hov⟩:=Mem.QD (Q3 b M.2);have vY:=QA hov;have rX:Hid (∀q,ov.getD q 0<b.n):=fun q=>by rw[←hov];exact Ŝ hf.nums.Hq q
 obtain⟨N,hN⟩:∃N:Nat,N=1000000:=⟨_,rfl⟩;have qW:Hid (∀x,x<b.n→b.no x<N):=fun x hx=>by rw[hN];exact hf.fb _ (List.mem_of_getElem? (Jo hf.lb hx))
 have Ir:=QA hN;obtain⟨NT,lK⟩:=Mem.QD (b.n*N);have rY:Hid (∀k:Nat×Nat,k.1<b.n→k.2<N→KJ N k<NT):=fun k h1 h2=>by rw[←lK];exact Qxw h2 h1
 have hstart:=QV.start 82 KO (fun k:Nat×Nat=>k.1<b.n∧k.2<N) (KJ N) NT w;rw[←Ĝ (ix:=KJ N) (dec:=Lt N) (c:=XI b M.2 ov 0 0) (fun k=>Qq8)]at hstart;have HST:=QA hstart;have hnb:=hf.nb;obtain⟨n,hn⟩:=Mem.QD (b.n);have HN:=QA hn;have hol:(Q3 b M.2).length=n:=by rw[←hn,←Jf];exact Zz (QI _)
 have hpos:0<n:=by rw[←hn];exact hf.nums.Hq.pos
 obtain⟨go,oo,Co,Ò,_⟩:=ro.at_ (i:=0) (by rw[hol];exact hpos);rw[hol]at Ò;subst Ò;rw[hn]at hnb;have Pw:=QA (Qz w (.map #[] 0));have mk:(Instr.makeMap 78 none).run prog w=.ok (.map (some w.heap.size)) (w.alloc (.map #[] 0)):=by rw[run_makeMap]
 have aH:Hid ((Q3 b M.2).length=n):=hol;obtain⟨gP,oP,CP,lY,_⟩:=h.ro.pb.parent hf.nums.Hq.pos
 have Wf:∀x,x<b.n→w.cell? ⟨gP,oP+x,none⟩=some (.int γ (b.par.getD x 0)):=fun x hx=>by
  obtain⟨g',o',C',Lj,h1⟩:=h.ro.pb.parent hx;rw[lY]at Lj;exact c96
 have HGP:Hid (w.cell? ⟨g,5,none⟩=some (ς (some ⟨gP,oP,none⟩) n CP)∧g<w.heap.size):=⟨by rw[←hn];exact lY,VJ _ _ lY⟩;have um:=QA Wf;have wO:Hid (gP<w.heap.size):=VJ _ _ (Wf 0 hf.nums.Hq.pos);rw[hn]at um;clear h hf ro hT hov hN lK hstart hn hol lY Wf;go_enter func47,ntmps47
 go_upto_region 2 with(fail)
 generalize w.alloc (.map #[] 0)=w1 at *;clear mk;generalize Dl:w.heap.size=gm at HST⊢;have Ru:=QA Dl;clear Dl;have Pb:=HST.out.more (e:=4) (sz:=1) #[.bool true,.bool false] 2 (by unfold maxLen;omega) rfl;have hb2:=Pw.out.trans ((Qz w1 (θ #[.bool true,.bool false] 4)).mono Pw.out.size);have EB:Hid (Below w.heap.size w (w1.alloc (θ #[.bool true,.bool false] 4))∧QV 82 KO (fun k:Nat×Nat=>k.1<b.n∧k.2<N) (KJ N) NT [Qb 4 1 (ς (some ⟨w1.heap.size,0,none⟩) 2 2) 2 [.bool true,.bool false]] gm (w1.alloc (θ #[.bool true,.bool false] 4)) gm 0 (fun _=>Zu) (fun _=>Zu) (GJ (KJ N) (Lt N) (XI b M.2 ov 0 0))):=⟨hb2,Pb⟩;clear Pb hb2 Pw HST;go_wp2;generalize w1.alloc (θ #[.bool true,.bool false] 4)=w2 at *;generalize w1.heap.size=gk at *
 go_loopw [14] (fun UU wr=>∃(c cnt:Nat)(f:Lit→Value)(v:Nat→Value),c≤2∧UU=.int γ (c:Int)∧cnt≤c*20000∧Hid (Below w.heap.size w wr∧QV 82 KO (fun k:Nat×Nat=>k.1<b.n∧k.2<N) (KJ N) NT [Qb 4 1 (ς (some ⟨gk,0,none⟩) 2 2) 2 [.bool true,.bool false]] gm wr gm cnt f v (GJ (KJ N) (Lt N) (XI b M.2 ov c 0)))) (fun s _=>2-(intOf s).toNat)
 case atStart=>exact⟨0,0,_,_,ω,rfl,ω,EB⟩
 case round =>
  clear EB;obtain⟨c,cnt,f,v,hc,rfl,GU,HP⟩:=hrel;by_cases hlt:c<2
  ·have hlt':(c:Int)<2:=ω
   have hc0:(0:Int)≤(c:Int):=ω
   obtain⟨kd,FC⟩:=Mem.QD (decide (c=0));have Re:=QA FC;have hcell:wr.cell? ⟨gk,c,none⟩=some (.bool kd):=by
    rw[←FC];have RY:c=0∨c=1:=ω
    rcases RY with rfl|rfl
    ·exact HP.out.2.all.cell (HP.out.2.RF (j:=0) rfl) (j:=0) rfl
    ·exact HP.out.2.all.cell (HP.out.2.RF (j:=0) rfl) (j:=1) rfl
   have c2:=(HP.out.1.cell HGP.out.2).trans HGP.out.1;clear FC;go_wp2;clear c2
   go_loopw [25] (fun s25 wq=>∃(i cnt:Nat)(f:Lit→Value)(v:Nat→Value),i≤n∧s25=.int γ (i:Int)∧cnt≤c*20000+i∧Hid (Below w.heap.size w wq∧QV 82 KO (fun k:Nat×Nat=>k.1<b.n∧k.2<N) (KJ N) NT [Qb 4 1 (ς (some ⟨gk,0,none⟩) 2 2) 2 [.bool true,.bool false]] gm wq gm cnt f v (GJ (KJ N) (Lt N) (XI b M.2 ov c i)))) (fun s _=>n-(intOf s).toNat)
   case atStart=>exact⟨0,cnt,f,v,ZR _,rfl,ω,HP⟩
   case round =>
    clear HP GU;obtain⟨i,cnt,f,v,hi,rfl,GU,HP⟩:=hrel;by_cases hil:i<n
    ·have Q3m:(i:Int)<(n:Int):=ω
     have hi0:(0:Int)≤(i:Int):=ω
     have hib:i<b.n:=by rw[HN.out];exact hil
     have HIB:=QA hib;obtain⟨pz,CF⟩:=Mem.QD (b.par.getD i 0);have d1:=(HP.out.1.cell wO.out).trans (um.out i hil);rw[CF]at d1;obtain⟨o,ho⟩:=Mem.QD (ov.getD i 0);have HO:=QA ho;obtain⟨go',oo',Co',eo',d2⟩:=aC.out.at_ (i:=i) (by rw[aH.out];exact hil);injection eo' with e1 e2 e3;injection e1 with e1;injection e1 with e4 e5;subst e4;subst e5;clear e2 e3;rw[vY.out,ho]at d2;have Mb:=QA d2;clear d2;obtain⟨ik,hik⟩:=Mem.QD (Va b ov i);have OY:=QA hik;have e1:(pz==(o:Int))=ik:=by
      rw[←hik];unfold Va;rw[CF,ho];by_cases e:pz=(o:Int)
      ·simp[e]
      ·simp[e]
     obtain⟨sm,hsm⟩:=Mem.QD ((kd==ik));have Hk:=QA (Gu (JL.out.later HP.out.1) i hib);obtain⟨fr,XM⟩:=Mem.QD (QQ M.2 i);have TX:=QA XM;rw[XM]at Hk;clear CF ho hik XM hib;go_wp2_with fail;refine Hk.out.mono ?_;rintro e w6 ⟨rfl,qd,GS⟩;have VH:Below wr.heap.size wr w6:=by rw[GS];exact⟨rfl,rfl,rfl,QI _,fun _ _=>rfl⟩
     have YC:Hid (Below w.heap.size w w6∧QV _ _ _ _ _ _ _ w6 _ _ _ _ _):=⟨HP.out.1.trans (VH.mono HP.out.1.size),HP.out.2.later VH⟩;clear GS VH Hk HP d1;have d2:=(YC.out.1.cell (VJ _ _ Mb.out)).trans Mb.out;cases fr with
     |false =>
      have Tv:Hid (Below w.heap.size w w6∧QV 82 KO (fun k:Nat×Nat=>k.1<b.n∧k.2<N) (KJ N) NT [Qb 4 1 (ς (some ⟨gk,0,none⟩) 2 2) 2 [.bool true,.bool false]] gm w6 gm cnt f v (GJ (KJ N) (Lt N) (XI b M.2 ov c (i+1)))):=by
       rw[Qga fun k=>ũ hlt (.inl TX.out)];exact YC.out
      clear YC;go_wp2
      go_roundw
      case rel=>exact⟨i+1,cnt,f,v,ω,by go_num,ω,Tv⟩
      case measure=>simp[intOf];omega
     |true =>
      cases sm with
      |false =>
       have Tv:Hid (Below w.heap.size w w6∧QV 82 KO (fun k:Nat×Nat=>k.1<b.n∧k.2<N) (KJ N) NT [Qb 4 1 (ς (some ⟨gk,0,none⟩) 2 2) 2 [.bool true,.bool false]] gm w6 gm cnt f v (GJ (KJ N) (Lt N) (XI b M.2 ov c (i+1)))):=by
        rw[Qga fun k=>ũ hlt (.inr (by rw[OY.out,Re.out];intro e;subst e;simp at hsm))];exact YC.out
       clear YC;go_wp2
       go_roundw
       case rel=>exact⟨i+1,cnt,f,v,ω,by go_num,ω,Tv⟩
       case measure=>simp[intOf];omega
      |true =>
       have TH:=JL.out.later YC.out.1;obtain⟨gM,oM,CM,A0,C0,A1,C1,n1,_,n2,_,r1⟩:=TH.ro.Nj.two;obtain⟨gN,oN,rfl,_,n3⟩:=r1.at_ (ints_at (Jo HF.out.lb HIB.out));rw[HF.out.lb,HN.out]at n2;obtain⟨m,hm⟩:=Mem.QD (b.no i);have HM:=QA hm;have Sw:m<N:=by rw[←hm];exact qW.out i HIB.out
       rw[hm]at n3;clear TH r1 hm;have Q2o:(i:Int)<(n:Int):=Q3m;go_wp2;have hbz:=Qz w6 (θ #[.int γ 0,.int γ 0] 82);have x1:=(hbz.cell (VJ _ _ n1)).trans n1;have x2:=(hbz.cell (VJ _ _ n2)).trans n2;have x3:=(hbz.cell (VJ _ _ n3)).trans n3;have x4:=(hbz.cell (VJ _ _ d2)).trans d2;clear hbz
       go_region
       clear x1 x2 x3 x4 n1 n2 n3 d2;obtain⟨j,hj⟩:=Mem.QD (KJ N (o,m));have HJ:=QA hj;have Fw:o<b.n:=by rw[←HO.out];exact rX.out i
       have Dg:j<NT:=by rw[←hj];exact rY.out (o,m) Fw Sw
       have o9:(fun k:Nat×Nat=>k.1<b.n∧k.2<N) (o,m):=⟨Fw,Sw⟩;have FP:=Ir.out;have hb1:b.n≤20000:=HF.out.nb;have hkey:Go.keyOf prog 82 (.agg #[.int γ (o:Int),.int γ (m:Int)])=some (KO (o,m)):=rz (k:=(o,m)) (by show o≤_;omega) (by show m≤_;omega);have vV:QV _ _ _ _ _ _ _ (w6.alloc (θ #[.int γ (o:Int),.int γ (m:Int)] 82)).drew _ _ _ _ _:=(YC.out.2.more (e:=82) (sz:=2) #[.int γ (o:Int),.int γ (m:Int)] 1 (by unfold maxLen;omega) rfl).later ⟨rfl,rfl,rfl,QI _,fun _ _=>rfl⟩;have xS:Below w.heap.size w (w6.alloc (θ #[.int γ (o:Int),.int γ (m:Int)] 82)).drew:=YC.out.1.trans (((Qz w6 (θ #[.int γ (o:Int),.int γ (m:Int)] 82)).trans (c:=(w6.alloc (θ #[.int γ (o:Int),.int γ (m:Int)] 82)).drew) ⟨rfl,rfl,rfl,QI _,fun _ _=>rfl⟩).mono YC.out.1.size);have s0:=vV.all.cell (vV.RF (j:=1) rfl) (j:=0) rfl;have s1:=vV.all.cell (vV.RF (j:=1) rfl) (j:=1) rfl;generalize(w6.alloc (θ #[.int γ (o:Int),.int γ (m:Int)] 82)).drew=w7 at *;generalize w6.heap.size=g10 at *;have uf:=vV.more (e:=3) (sz:=1) #[.int γ (i:Int)] 1 (by unfold maxLen;omega) rfl;have hbb:=Qz w7 (θ #[.int γ (i:Int)] 3);have YJ:=xS.trans (hbb.mono xS.size);obtain⟨Aj,Cj,ej,_,_⟩:=uf.slice Dg;have hlen:(GJ (KJ N) (Lt N) (XI b M.2 ov c i) j).length≤40000:=ě (fun k=>Nat.le_trans (Č (by rw[HN.out];exact hi)) ω) j;obtain⟨st,w9,ob,hrun,zY,U',hst⟩:=Qpi (i:=0) (e:=32) (t:=78) uf.all rfl Ej underlying78 Us (by unfold maxLen;omega) hkey;have Lx:=zY.cell (i:=NT+2+1) (by rw[List.set_cons_zero,GV,List.getElem?_append_right (by rw[Qe];omega),Qe,Nat.add_sub_cancel_left];rfl) (j:=0) rfl;have lF:((Zm prog 82 Zu gm cnt f::(Qw NT v (GJ (KJ N) (Lt N) (XI b M.2 ov c i))++(([Qb 4 1 (ς (some ⟨gk,0,none⟩) 2 2) 2 [.bool true,.bool false]]++[Qb 82 2 (ς (some ⟨g10,0,none⟩) 1 1) 1 [.int γ (o:Int),.int γ (m:Int)]])++[Qb 3 1 (ς (some ⟨w7.heap.size,0,none⟩) 1 1) 1 [.int γ (i:Int)]]))).set 0 (vE gm ob))[j+1]?=some (Qb 3 1 (v j) (GJ (KJ N) (Lt N) (XI b M.2 ov c i) j).length (iV (ints (GJ (KJ N) (Lt N) (XI b M.2 ov c i) j)))):=by have:=uf.idx Dg;rw[GV]at this;rw[List.set_cons_zero,GV];exact this
       have hat:=uf.at_;rw[hat (o,m) o9,hj,ej]at hrun;rw[ej]at lF;obtain⟨i0,KZ,hz0,hz1,hz2⟩:=info_parts Zq;obtain⟨lj,YI⟩:=Mem.QD ((GJ (KJ N) (Lt N) (XI b M.2 ov c i) j).length);have NW:=QA YI;rw[YI]at hrun lF hlen;have sL:=QA zY;have OX:=QA lF;have Si:=QA Lx;have HST:=QA hst;have Px:=QA hat;have ER:=QA (YJ.trans (c:=w9) ⟨U'.os,U'.tape,U'.output,U'.size,fun k hk=>U'.block k (by rw[←Ru.out];exact hk)⟩)
       have HCX:Hid (∀(q:Nat)(u:Value),([.int γ (i:Int)]:List Value)[q]? = some u→w9.cell? ⟨w7.heap.size,q,none⟩=some u):=fun q u hq=>by
        cases q with
        |zero=>rw[show u=.int γ (i:Int)by injection hq with hq;exact hq.symm];exact Si.out
        |succ q=>simp at hq
       have wU:=QA (And.intro Fw Sw);have Bc:Hid (Ś (i:Int)):=Qgr _;clear FP vV uf xS hbb YJ U' zY lF Lx hst hat YC YI Fw o9;go_wp2_with (at_builtin;refine Qwv (i:=j+1) (g:=w7.heap.size) (cs:=[.int γ (i:Int)]) sL.out OX.out rfl _ _ rfl underlying32 KZ hz0 hz1 hz2 rfl δ δ rfl HCX.out Bc.out ω rfl rfl ?_);intro A C UT xy UA cD
       have hput:∃Na,(Instr.entryStore 78 (.map (some gm)) (.int γ (st:Int)) (ς A (lj+1) C)).run prog UT = .ok () Na∧Below gm UT Na∧QV 82 KO (fun k:Nat×Nat=>k.1<b.n∧k.2<N) (KJ N) NT (([Qb 4 1 (ς (some ⟨gk,0,none⟩) 2 2) 2 [.bool true,.bool false]]++[Qb 82 2 (ς (some ⟨g10,0,none⟩) 1 1) 1 [.int γ (o:Int),.int γ (m:Int)]])++[Qb 3 1 (ς (some ⟨w7.heap.size,0,none⟩) 1 1) 1 [.int γ (i:Int)]]) gm Na gm (cnt+1) (KN f (KO (o,m)) (ς A (lj+1) C)) (upd v j (ς A (lj+1) C)) (upd (GJ (KJ N) (Lt N) (XI b M.2 ov c i)) j (GJ (KJ N) (Lt N) (XI b M.2 ov c i) j++[i])):=by
        have hb1:=HF.out.nb;have FP:=Ir.out;have hd:=wU.out;refine QV.put (ob:=ob) Px.out wU.out (fun k' hk' e=>?_) (fun k' hk' e=>?_) HJ.out Dg ?_ HST.out
        ·exact Qrf (by show o≤_;omega) (by show m≤_;omega) (by have:=hk'.1;omega) (by have:=hk'.2;omega) e
        ·exact û (ix:=KJ N) (dec:=Lt N) (rA (k:=(o,m)) hd.2) (rA (k:=k') hk'.2) e
        ·rw[NW.out];exact xy
       obtain⟨Na,Q19,Nz,hrows⟩:=hput;have WU:GJ (KJ N) (Lt N) (XI b M.2 ov c (i+1))=upd (GJ (KJ N) (Lt N) (XI b M.2 ov c i)) j (GJ (KJ N) (Lt N) (XI b M.2 ov c i) j++[i]):=by
        have e1:(o,m)=(ov.getD i 0,b.no i):=by rw[HO.out,HM.out]
        rw[←HJ.out];refine Qwr (rA wU.out.2) ?_ (fun k' hk'=>Qn5 hlt (by rw[←e1];exact hk'));rw[e1];exact Qum hlt TX.out (by rw[OY.out,Re.out];exact(beq_iff_eq.1 hsm).symm)
       have Tv:Hid (Below w.heap.size w Na∧QV 82 KO (fun k:Nat×Nat=>k.1<b.n∧k.2<N) (KJ N) NT [Qb 4 1 (ς (some ⟨gk,0,none⟩) 2 2) 2 [.bool true,.bool false]] gm Na gm (cnt+1) (KN f (KO (o,m)) (ς A (lj+1) C)) (upd v j (ς A (lj+1) C)) (GJ (KJ N) (Lt N) (XI b M.2 ov c (i+1)))):=by
        refine⟨?_,?_⟩
        ·have h10:Below w.heap.size w9 UT:=⟨UA.os,UA.tape,UA.output,UA.size,fun k hk=>UA.block k (by rw[←Ru.out];exact hk)⟩;have h11:Below w.heap.size UT Na:=⟨Nz.os,Nz.tape,Nz.output,Nz.size,fun k hk=>Nz.block k (by rw[←Ru.out];exact hk)⟩;exact(ER.out.trans h10).trans h11
        ·rw[WU];exact hrows.less (by rw[List.append_assoc];exact List.sublist_append_left _ _)
       clear xy UA cD Nz hrows WU;go_wp2
       go_roundw
       case rel=>exact⟨i+1,cnt+1,_,_,ω,by go_num,ω,Tv⟩
       case measure=>simp[intOf];omega
    ·obtain rfl:i=n:=ω
     have Q3m:¬(i:Int)<(i:Int):=ω
     have rW:Hid (Below w.heap.size w wr∧QV 82 KO (fun k:Nat×Nat=>k.1<b.n∧k.2<N) (KJ N) NT [Qb 4 1 (ς (some ⟨gk,0,none⟩) 2 2) 2 [.bool true,.bool false]] gm wr gm cnt f v (GJ (KJ N) (Lt N) (XI b M.2 ov (c+1) 0))):=by
      have:=HP.out;have e:XI b M.2 ov (c+1) 0=XI b M.2 ov c i:=by
       funext k
       rw[←HN.out,Qq9 hlt]
      rw[e];exact this
     clear HP;go_wp2
     go_roundw
     case rel=>exact⟨c+1,cnt,f,v,ω,by go_num,ω,rW⟩
     case measure=>simp[intOf];omega
  ·obtain rfl:c=2:=ω
   have hlt':¬((2:Nat):Int)<2:=ω
   have HE:Hid (Below w.heap.size w wr∧pR wr w.heap.size gm b M.2):=by
    refine⟨HP.out.1,N,NT,cnt,f,v,[Qb 4 1 (ς (some ⟨gk,0,none⟩) 2 2) 2 [.bool true,.bool false]],⟨Ir.out,rY.out⟩,?_⟩;rw[Ru.out];have:=HP.out.2
    have e:(fun k:Nat×Nat=>Xd b M.2 (Q3 b M.2) k.1 k.2)=XI b M.2 ov 2 0:=by
     funext k
     rw[vY.out];rfl
    rw[e];exact this
   clear HP;go_wp2;go_ret;exact⟨HE.out.1,gm,rfl,HE.out.2⟩
end Match
namespace Match
open Mem Tree Shape
theorem yF{l:List Nat}{i:Nat}(h:i<l.length):l.drop i=l.getD i 0::l.drop (i+1):=by
 rw[QX,List.getElem?_eq_getElem h,Option.getD_some];exact List.drop_eq_getElem_cons h
section
variable {a b:Sd}{KP XS:List Nat}{sp:Nat→Nat→List Nat}{M M':St}{l:List Nat}{i:Nat}
theorem Qby(M:St)(x:Nat)(r:List Nat):Yc a b KP XS sp M (x::r)=Yc a b KP XS sp (if QQ M.1 x then Ys a b KP XS x M (sp (M.1.getD (KP.getD x 0) 0).toNat (a.no x))else M) r:=rfl
structure LC(a b:Sd)(KP XS:List Nat)(sp:Nat→Nat→List Nat)(M:St)(l:List Nat)(M':St)(i:Nat):Prop where
 go:Yc a b KP XS sp M' (l.drop i)=Yc a b KP XS sp M l
 inv:∃m,Pk a b M' m∧∀x∈l.drop i,x<a.n∧a.sz x≤m
 O1:(l.drop i).Pairwise fun p q=>a.sz q≤a.sz p
 ext:Ext M M'
theorem LC.skip(h:LC a b KP XS sp M l M' i)(hi:i<l.length)(hf:QQ M'.1 (l.getD i 0)=false):LC a b KP XS sp M l M' (i+1):=by
 obtain⟨m,h1,h2⟩:=h.inv;have hg:=h.go;have hs:=h.O1;rw[yF hi]at hg h2 hs;refine⟨?_,⟨m,h1,fun x hx=>h2 x (UN _ hx)⟩,(List.pairwise_cons.1 hs).2,h.ext⟩;rw[←hg,Qby,if_neg (by rw[hf];decide)]
theorem LC.lt(h:LC a b KP XS sp M l M' i)(hi:i<l.length):l.getD i 0<a.n:=by
 obtain⟨m,h1,h2⟩:=h.inv;rw[yF hi]at h2;exact(h2 _ XG).1
theorem LC.step(hn:ZM a b)(hsp:∀o q,∀y∈sp o q,y<b.n∧b.no y=q)(h:LC a b KP XS sp M l M' i)(hi:i<l.length)(hf:QQ M'.1 (l.getD i 0)=true){M2:St}{ys:List Nat}(hy:sp (M'.1.getD (KP.getD (l.getD i 0) 0) 0).toNat (a.no (l.getD i 0))=ys)(h2':Ys a b KP XS (l.getD i 0) M' ys=M2):LC a b KP XS sp M l M2 (i+1):=by
 obtain⟨m,h1,h2⟩:=h.inv;have hg:=h.go;have hs:=h.O1;rw[yF hi]at hg h2 hs;rw[List.pairwise_cons]at hs;obtain⟨x1,x2⟩:=h2 _ XG;obtain⟨t1,t2⟩:=fH hn KP XS x1 x2 ys M' h1 hf (by rw[←hy];exact hsp _ _);rw[h2']at t1 t2;refine⟨?_,⟨_,t1,fun z hz=>⟨(h2 z (UN _ hz)).1,hs.1 z hz⟩⟩,hs.2,h.ext.trans t2⟩;rw[←hg,Qby,if_pos hf,hy,h2']
theorem Qq7(s:Sd)(L:List Int)(ov:List Nat)(o q:Nat):∀y∈Xd s L ov o q,y<s.n∧s.no y=q:=by
 intro y hy;unfold Xd at hy;rcases List.mem_append.1 hy with hy|hy
 all_goals
  rw[List.mem_filter,List.mem_range]at hy;simp at hy;exact⟨hy.1,hy.2.2.2.2⟩
theorem LC.start(hn:ZM a b)(h:Inv a b M):LC a b (Q3 a M.1) (Q3 b M.2) (Xd b M.2 (Q3 b M.2)) M (J7 a (Jt a M.1)) M 0:=by
 refine⟨rfl,⟨a.n+b.n,⟨h.part,fun z hz _ hf=>Gf h.c1 hz hf,fun z hz _ hf=>Gf h.c2 hz hf⟩,fun x hx=>?_⟩,(E5 _).1,Ext.refl _⟩;rw[List.drop_zero,(E5 _).2]at hx;unfold Jt at hx;rw[List.mem_filter,List.mem_range]at hx;have:=Sd.sub hx.1;exact⟨hx.1,ω⟩
theorem LC.done(h:LC a b (Q3 a M.1) (Q3 b M.2) (Xd b M.2 (Q3 b M.2)) M (J7 a (Jt a M.1)) M' (J7 a (Jt a M.1)).length):M'=Y9 a b M:=by
 have:=h.go;rw[List.drop_length]at this;exact this
theorem Qdl{s:Sd}{L:List Int}(h:s.Ok)(h0:QQ L 0=false):∀i,i≤s.n→∀q,q<i→QQ L ((Zv s L i).getD q 0)=false
 |0,_,q,hq=>ω
 |i+1,hi,q,hq=>by
  have ih:=Qdl h h0 i ω;rw[G9 ω,QX,List.getElem?_append,Zz ω];split
  ·rename_i h1
   rw[←QX];exact ih q h1
  ·rw[show q-i=0 by omega];show QQ L (if _ then _ else _)=false;by_cases hi0:i=0
   ·subst hi0;rw[if_pos (.inl rfl),Sd.EF h];exact h0
   ·obtain⟨p,h1,h2⟩:=Sd.EE h ω (show i<s.n by omega);by_cases hf:QQ L (s.par.getD i 0).toNat=false
    ·rw[if_pos (.inr hf)];exact hf
    ·rw[if_neg (by rintro(h|h) <;> contradiction)];rw[h2];exact ih p h1
theorem Qk7{s:Sd}{L:List Int}(h:s.Ok)(h0:QQ L 0=false){q:Nat}(hq:q<s.n):QQ L ((Q3 s L).getD q 0)=false:=by
 rw[←Jf];exact Qdl h h0 s.n (Nat.le_refl _) q hq
theorem Ű{x j:Nat}{ys:List Nat}(hj:j<ys.length)(hc:(QQ M'.2 (ys.getD j 0)&&(Va a KP x||Va b XS (ys.getD j 0)))=false):Ys a b KP XS x M' (ys.drop j)=Ys a b KP XS x M' (ys.drop (j+1)):=by
 rw[yF hj];show(if _ then _ else _)=_;rw[if_neg (by rw[hc];decide)]
theorem ű{x j:Nat}{ys:List Nat}(hj:j<ys.length)(hc:(QQ M'.2 (ys.getD j 0)&&(Va a KP x||Va b XS (ys.getD j 0)))=true):Ys a b KP XS x M' (ys.drop j)=QK a b M' x (ys.getD j 0):=by
 rw[yF hj];show(if _ then _ else _)=_;rw[if_pos hc]
end
theorem pR.look{W0:World}{B gm:Nat}{b:Sd}{L:List Int}(h:pR W0 B gm b L){o m:Nat}(ho:o<b.n)(hm:m<1000000)(UJ:b.n≤20000) :
 ∃v,(∀W:World,(∀k,B≤k→k<W0.heap.size→W.heap[k]?=W0.heap[k]?)→(Instr.lookup 78 (.map (some gm)) (ξ #[ι γ (o:Int),ι γ (m:Int)]) false).run Tryz.prog W=.ok v W)∧Qu W0 (In B W0.heap.size) v (Xd b L (Q3 b L) o m):=by
 obtain⟨N,NT,cnt,f,v,X,⟨hN,lK⟩,hr⟩:=h;have hd:(fun k:Nat×Nat=>k.1<b.n∧k.2<N) (o,m):=⟨ho,by show m<N;omega⟩;have hkey:Go.keyOf Tryz.prog 82 (ξ #[ι γ (o:Int),ι γ (m:Int)])=some (KO (o,m)):=rz (k:=(o,m)) (by show o≤_;omega) (by show m≤_;omega);have hmap:Vj W0 Tryz.prog 82 Zu gm cnt f:=hr.all.get (i:=0) rfl;have hg:=hr.lt;refine⟨v (KJ N (o,m)),fun W hk=>?_,?_⟩
 ·have:=Vj.look (e:=32) (t:=78) (hmap.of_block (hk gm hg.1 hg.2)) Ej Tryz.underlying78 (Us W) hkey;rw[this,hr.at_ (o,m) hd]
 ·have h1:=hr.row (lK (o,m) ho hd.2);rw[Et (rA (k:=(o,m)) hd.2)]at h1;exact h1
