import Derived.Test.YtmepekognmlblaaGreatDoorP28
import Derived.BigRegion
import Derived.Deep.RegionHeldLaw
set_option maxHeartbeats 16000000
set_option maxRecDepth 100000
set_option linter.unusedVariables false
open Go.ChangeShapes Go.WideShapes Go.ChangeAt Go.RowKit
open Go.Lib renaming hid→QA
open Go.RowKit.Below renaming refl→QE
open _root_.Nat renaming le_refl→QI
open Go.World renaming cell?_of_block→JW
open _root_.List renaming getElem?_eq_getElem→QN,getElem?_append_right→GK,getElem?_map→VP,length_map→VD,getElem?_append_left→PX
open Go.Value renaming string→σ,int→ι,slice→ς,pointer→π
open Go.IntKind renaming i64→γ
open Go.Obj renaming cells→θ
open Go.Ending renaming returned→ρ
namespace Go.Proofs.YtmepekognmlblaaGreatDoor
namespace Match
open Mem Tree Shape
def zH(nd:Nd)(s:Value):Array Value:=#[ι γ nd.k,σ nd.x,σ nd.y,s]
structure Two(w W:World)(p q:Nat)(c d:Array Value):Prop where
 QF:Below w.heap.size w W
 fst:W.heap[p]?=some (θ c 24 (0,0))
 snd:W.heap[q]?=some (θ d 24 (0,0))
theorem rD(w:World)(c d:Array Value):Two w ((w.alloc (θ c 24)).alloc (θ d 24)).drew w.heap.size (w.heap.size+1) c d:=by
 refine⟨((Qz w _).trans ((Qz (w.alloc (θ c 24)) (θ d 24)).mono (Qz w (θ c 24)).size)).drew,(heap_alloc_old (w.alloc (θ c 24)) _ ψ).trans (heap_alloc_new w _),bI w _ _⟩
theorem Two.swap{w W:World}{p q:Nat}{c d:Array Value}(h:Two w W p q c d):Two w W q p d c:=⟨h.QF,h.snd,h.fst⟩
theorem N7{W:World}{p:Nat}{nd:Nd}{s:Value}(h:W.heap[p]?=some (θ (zH nd s) 24 (0,0))):W.cell? ⟨p,0,none⟩=some (ι γ nd.k)∧W.cell? ⟨p,1,none⟩=some (σ nd.x)∧W.cell? ⟨p,2,none⟩=some (σ nd.y)∧W.cell? ⟨p,3,none⟩=some s:=by
 refine⟨?_,?_,?_,?_⟩ <;> simp[World.cell?,h,zH]
def NN(W:World)(g gN oN n CN x gO oO m CO y:Nat)(nx ny:Nd)(sx sy:Value):Prop :=
 W.cell? ⟨g,0,none⟩=some (ς (some ⟨gN,oN,none⟩) n CN)∧(W.cell? ⟨gN,oN+x*4,none⟩=some (ι γ nx.k)∧W.cell? ⟨gN,oN+x*4+1,none⟩=some (σ nx.x)∧W.cell? ⟨gN,oN+x*4+2,none⟩=some (σ nx.y)∧W.cell? ⟨gN,oN+x*4+3,none⟩=some sx)∧
 W.cell? ⟨g,4,none⟩=some (ς (some ⟨gO,oO,none⟩) m CO)∧(W.cell? ⟨gO,oO+y*4,none⟩=some (ι γ ny.k)∧W.cell? ⟨gO,oO+y*4+1,none⟩=some (σ ny.x)∧W.cell? ⟨gO,oO+y*4+2,none⟩=some (σ ny.y)∧W.cell? ⟨gO,oO+y*4+3,none⟩=some sy)
variable {w:World}{S:Nat→Prop}{g gA gB:Nat}{a b:Sd}{M:St}
theorem ô(h:MS w S g gA gB a b M){x y:Nat}(hx:x<a.n)(hy:y<b.n):∃gN oN CN gO oO CO sx sy,(∀W,Below w.heap.size w W→NN W g gN oN a.n CN x gO oO b.n CO y (a.at_ x) (b.at_ y) sx sy)∧(∃A C,sx=ς A (a.at_ x).c.len C)∧(∃A C,sy=ς A (b.at_ y).c.len C):=by
 obtain⟨gN,oN,CN,sx,n0,nc,nk⟩:=h.ro.pa.node hx;obtain⟨gO,oO,CO,sy,p0,pc,pk⟩:=h.ro.pb.node hy;refine⟨gN,oN,CN,gO,oO,CO,sx,sy,fun W hW=>?_,?_,?_⟩
 ·obtain⟨gN',oN',CN',sx',nj,nc',_⟩:=(h.later hW).ro.pa.node hx;obtain⟨gO',oO',CO',sy',tR,pc',_⟩:=(h.later hW).ro.pb.node hy;have e1:∀i,W.cell? ⟨g,i,none⟩=w.cell? ⟨g,i,none⟩:=fun i=>JW (w:=w) (hW.block g (h.safe g h.ro.own).1)
  rw[e1,n0]at nj;rw[e1,p0]at tR;simp only[Option.some.injEq,Value.slice.injEq,Addr.mk.injEq]at nj tR;obtain⟨⟨rfl,rfl,_⟩,_,rfl⟩:=nj;obtain⟨⟨rfl,rfl,_⟩,_,rfl⟩:=tR;have lt:∀(k i:Nat)(v:Value),w.cell? ⟨k,i,none⟩=some v→k<w.heap.size:=fun k i v hv=>World.block_lt_of_cell? _ _ hv
  have eN:∀i,W.cell? ⟨gN,i,none⟩=w.cell? ⟨gN,i,none⟩:=fun i=>JW (w:=w) (hW.block gN (lt _ _ _ nc.1))
  have eO:∀i,W.cell? ⟨gO,i,none⟩=w.cell? ⟨gO,i,none⟩:=fun i=>JW (w:=w) (hW.block gO (lt _ _ _ pc.1))
  refine⟨by rw[e1];exact n0,⟨by rw[eN];exact nc.1,by rw[eN];exact nc.2.1,by rw[eN];exact nc.2.2.1,by rw[eN];exact nc.2.2.2⟩,by rw[e1];exact p0,⟨by rw[eO];exact pc.1,by rw[eO];exact pc.2.1,by rw[eO];exact pc.2.2.1,by rw[eO];exact pc.2.2.2⟩⟩
 ·obtain⟨A,C,e,_⟩:=nk.slice;exact⟨A,C,e⟩
 ·obtain⟨A,C,e,_⟩:=pk.slice;exact⟨A,C,e⟩
theorem Ql2(h:MS w S g gA gB a b M)(hf:Fit a b)(x y:Nat)(hx:x<a.n)(hy:y<b.n) :
 Calls Tryz.prog 126 #[π (some ⟨g,0,none⟩),ι γ (x:Int),ι γ (y:Int)] w fun e w'=>e=ρ (ι γ ((Es a b x y:Nat):Int))∧Below w.heap.size w w':=by
 have sQ:=QA (fun q=>Qej (h.drewN q) hf x y hx hy);have HM:=QA h;have RL:=hf.na;have hnb:=hf.nb;have HV:Hid (Es a b x y=Ef a b 4 x y (if Xm a b x y then 2 else 0)):=rfl;generalize Es a b x y=R at *;generalize Xm a b x y=ae at *;clear h hf;go_enter Tryz.func126,Tryz.ntmps126
 go_upto_if 13 with(go_at_call 125;refine(sQ.out 0).mono ?_;rintro e w1 ⟨rfl,q,rfl⟩)
 go_cut [7]from 10 to 15 (fun s7 W=>∃v:Nat,s7=ι γ (v:Int)∧v≤2∧Hid (R=Ef a b 4 x y v)∧W=w.drewN q)
 case first =>
  cases ae with
  |false =>
   go_wp2
   go_meet
   case rel=>exact⟨0,rfl,ω,HV.out,rfl⟩
  |true =>
   go_wp2
   go_meet
   case rel=>exact⟨2,rfl,ω,HV.out,rfl⟩
 case rest =>
  obtain⟨v0,rfl,hv0,HR,hw⟩:=hcut;have Pw:Hid (Below w.heap.size w wc):=by rw[hw];exact(QB.drewN (gA:=gA) (gB:=gB) w q).below (QI _)|> fun _=>⟨rfl,rfl,rfl,QI _,fun _ _=>rfl⟩
  clear hw sQ HV;go_wp2
  go_loopw [1,2,7,16] (fun s1 s2 s7 ED wr=>∃(i x' y' v:Nat),i≤4∧x'<a.n∧y'<b.n∧v≤2+2*i∧s1=ι γ (x':Int)∧s2=ι γ (y':Int)∧s7=ι γ (v:Int)∧ED=ι γ (i:Int)∧Hid (R=Ef a b (4-i) x' y' v)∧Hid (Below w.heap.size w wr)) (fun _ _ _ s _=>4-(intOf s).toNat)
  case atStart=>exact⟨0,x,y,v0,ω,hx,hy,ω,rfl,rfl,rfl,rfl,HR.out,Pw.out⟩
  case round =>
   obtain⟨i,x',y',v,hi,hx',hy',hv,rfl,rfl,rfl,rfl,hR,hB⟩:=hrel;by_cases hlt:i<4
   ·have hlt':(i:Int)<4:=ω
    obtain⟨gN,oN,CN,gO,oO,CO,sx,sy,hnn,⟨As,Cs,dN⟩,⟨At,Ct,dM⟩⟩:=ô (HM.out.later hB.out) hx' hy';subst dN;subst dM;have Sk:=QA hnn;have yP:=QA (Sd.sub (s:=a) hx');have Ig:=QA (Sd.sub (s:=b) hy');have HZX:Hid (a.sz x'=(a.at_ x').c.size+1):=rfl;have HZY:Hid (b.sz y'=(b.at_ y').c.size+1):=rfl;have rU:Hid (R=if(a.at_ x').k=(b.at_ y').k then(if(a.at_ x').c.len=0∨(b.at_ y').c.len=0 then v+1+(if(a.at_ x').x.toList=(b.at_ y').x.toList then 1 else 0)else Ef a b (4-(i+1)) (x'+1) (y'+1) (v+1+(if(a.at_ x').x.toList=(b.at_ y').x.toList then 1 else 0)))else v):=by show _=_;rw[hR.out,show 4-i=(4-(i+1))+1 by omega];rfl
    generalize a.at_ x'=nx at *;generalize b.at_ y'=ny at *;have hx0:(0:Int)≤(x':Int):=ω
    have hy0:(0:Int)≤(y':Int):=ω
    have hx1:(x':Int)<(a.n:Int):=ω
    have hy1:(y':Int)<(b.n:Int):=ω
    clear hnn hR;obtain⟨w2,rfl⟩:∃w2,w2=wr:=⟨_,rfl⟩
    go_upto_region 6 with(fail)
    go_cut [8,9]from 18 to 35 (fun s7 s8 W=>∃p q:Nat,s7=π (some ⟨p,0,none⟩)∧s8=π (some ⟨q,0,none⟩)∧Hid (Two w2 W p q (zH nx (ς As nx.c.len Cs)) (zH ny (ς At ny.c.len Ct))))
    case first =>
     have KQ:Hid (∀W,Below w2.heap.size w2 W→(W.cell? ⟨g,0,none⟩=some (ς (some ⟨gN,oN,none⟩) a.n CN)∧W.cell? ⟨gN,oN+x'*4,none⟩=some (ι γ nx.k)∧W.cell? ⟨gN,oN+x'*4+1,none⟩=some (σ nx.x)∧W.cell? ⟨gN,oN+x'*4+2,none⟩=some (σ nx.y)∧W.cell? ⟨gN,oN+x'*4+3,none⟩=some (ς As nx.c.len Cs)∧W.cell? ⟨g,4,none⟩=some (ς (some ⟨gO,oO,none⟩) b.n CO)∧W.cell? ⟨gO,oO+y'*4,none⟩=some (ι γ ny.k)∧W.cell? ⟨gO,oO+y'*4+1,none⟩=some (σ ny.x)∧W.cell? ⟨gO,oO+y'*4+2,none⟩=some (σ ny.y)∧W.cell? ⟨gO,oO+y'*4+3,none⟩=some (ς At ny.c.len Ct))):=fun W hW=>by
      exact c113
     go_region_held_law (fun W=>(W.cell? ⟨g,0,none⟩=some (ς (some ⟨gN,oN,none⟩) a.n CN)∧W.cell? ⟨gN,oN+x'*4,none⟩=some (ι γ nx.k)∧W.cell? ⟨gN,oN+x'*4+1,none⟩=some (σ nx.x)∧W.cell? ⟨gN,oN+x'*4+2,none⟩=some (σ nx.y)∧W.cell? ⟨gN,oN+x'*4+3,none⟩=some (ς As nx.c.len Cs)∧W.cell? ⟨g,4,none⟩=some (ς (some ⟨gO,oO,none⟩) b.n CO)∧W.cell? ⟨gO,oO+y'*4,none⟩=some (ι γ ny.k)∧W.cell? ⟨gO,oO+y'*4+1,none⟩=some (σ ny.x)∧W.cell? ⟨gO,oO+y'*4+2,none⟩=some (σ ny.y)∧W.cell? ⟨gO,oO+y'*4+3,none⟩=some (ς At ny.c.len Ct))) (first|exact KQ.out _ (QE _ _).drew|exact KQ.out _ ((QE _ _).alloc (QI _) _).drew|exact KQ.out _ (((QE _ _).alloc (QI _) _).alloc ψ _).drew) (fail)
     all_goals(go_wp2_with fail;go_meet)
     all_goals first
      |exact⟨_,_,rfl,rfl,rD _ _ _⟩
      |exact⟨_,_,rfl,rfl,(rD _ _ _).swap⟩
    case rest =>
     obtain⟨p,q',rfl,rfl,HT⟩:=hcut;obtain⟨u0,u1,u2,u3⟩:=N7 HT.out.fst;obtain⟨t0,t1,t2,t3⟩:=N7 HT.out.snd;have HB:=QA (hB.out.trans (HT.out.QF.mono hB.out.size));obtain⟨w3,rfl⟩:∃w3,w3=wc:=⟨_,rfl⟩;have wv:IntKind.i64.wrap ((v:Int)+1)=((v+1:Nat):Int):=by rw[IntKind.wrap_i64];omega
     have Sz:=QA hv;have HI:=QA hlt;clear Sk hB HT;by_cases hk:nx.k=ny.k
     ·have hk':(nx.k != ny.k)=false:=by simp[hk]
      have hk2:(nx.k==ny.k)=true:=by simp[hk]
      obtain⟨te,hte⟩:=Mem.QD ((nx.x.toList==ny.x.toList));obtain⟨v2,hv2⟩:∃v2:Nat,v2=v+1+(if nx.x.toList=ny.x.toList then 1 else 0):=⟨_,rfl⟩;have YQ:Hid (R=if nx.c.len=0∨ny.c.len=0 then v2 else Ef a b (4-(i+1)) (x'+1) (y'+1) v2):=by show _=_;rw[rU.out,if_pos hk,hv2]
      have Ii:Hid (v2=v+1+(if te then 1 else 0)):=by
       show _=_;rw[hv2,←hte];by_cases e:nx.x.toList=ny.x.toList
       ·simp[e]
       ·simp[e]
      clear rU hv2
      go_upto_if 47 with(fail)
      go_cut [7]from 36 to 49 (fun s7 W=>s7=ι γ (v2:Int)∧W=w3)
      case first =>
       cases te with
       |false =>
        have e:Hid (((v+1:Nat):Int)=(v2:Int)):=by show _=_;rw[Ii.out];rfl
        go_wp2
        go_meet
        case rel=>exact⟨by rw[←e.out];go_num,rfl⟩
       |true =>
        have e:Hid (((v+1+1:Nat):Int)=(v2:Int)):=by show _=_;rw[Ii.out];rfl
        have wv2:IntKind.i64.wrap (((v+1:Nat):Int)+1)=((v+1+1:Nat):Int):=by have:=Sz.out;have:=HI.out;rw[IntKind.wrap_i64];omega
        go_wp2
        go_meet
        case rel=>exact⟨by rw[←e.out];go_num,rfl⟩
      case rest =>
       obtain⟨rfl,hw⟩:=hcut;obtain⟨w4,rfl⟩:∃w4,w4=wc:=⟨_,rfl⟩;subst hw;have AU:v2≤2+2*(i+1):=by have:=Sz.out;rw[Ii.out];split <;> omega
       have ag:=QA AU;have zk:=QA hlt;clear hv AU Ii Sz wv;by_cases hc1:nx.c.len=0
       ·have hz:((nx.c.len:Int)==0)=true:=by rw[hc1];rfl
        have Tt:Hid (R=v2):=by show _=_;rw[YQ.out,if_pos (.inl hc1)]
        clear hc1 YQ;go_wp2;go_ret;exact⟨by rw[Tt.out];rfl,HB.out⟩
       ·have hz:((nx.c.len:Int)==0)=false:=by rw[beq_eq_false_iff_ne];omega
        by_cases hc2:ny.c.len=0
        ·have hz2:((ny.c.len:Int)==0)=true:=by rw[hc2];rfl
         have Tt:Hid (R=v2):=by show _=_;rw[YQ.out,if_pos (.inr hc2)]
         clear hc1 hc2 YQ;go_wp2;go_ret;exact⟨by rw[Tt.out];rfl,HB.out⟩
        ·have hz2:((ny.c.len:Int)==0)=false:=by rw[beq_eq_false_iff_ne];omega
         have Tt:Hid (R=Ef a b (4-(i+1)) (x'+1) (y'+1) v2):=by show _=_;rw[YQ.out,if_neg (fun e=>by rcases e with e|e <;> omega)]
         have g1:x'+1<a.n:=by have h1:=yP.out;have h2:=HZX.out;have h3:=F.QL nx.c;omega
         have g2:y'+1<b.n:=by have h1:=Ig.out;have h2:=HZY.out;have h3:=F.QL ny.c;omega
         have G1:=QA g1;have G2:=QA g2;clear hc1 hc2 YQ g1 g2;go_wp2
         go_roundw
         case rel=>exact⟨i+1,x'+1,y'+1,v2,by have:=zk.out;omega,G1.out,G2.out,ag.out,by go_num,by go_num,rfl,by go_num,Tt.out,HB.out⟩
         case measure=>have:=zk.out;simp[intOf];omega
     ·have hk':(nx.k != ny.k)=true:=by simp[hk]
      have hk2:(nx.k==ny.k)=false:=by simp[hk]
      have YQ:Hid (R=v):=by show _=_;rw[rU.out,if_neg hk]
      clear rU;go_wp2;go_ret;exact⟨by rw[YQ.out];rfl,HB.out⟩
   ·obtain rfl:i=4:=ω
    have YQ:Hid (R=v):=hR.out;clear hR;go_wp2;go_ret;exact⟨by rw[YQ.out];rfl,hB.out⟩
theorem fV(h:MS w S g gA gB a b M)(hf:Fit a b)(x y:Nat)(hx:x<a.n)(hy:y<b.n) :
 Calls Tryz.prog 97 #[π (some ⟨g,0,none⟩),ι γ (x:Int),ι γ (y:Int)] w fun e w'=>e=ρ (ι γ ((near a b M x y:Nat):Int))∧Below w.heap.size w w':=by
 obtain⟨gN,oN,CN,gO,oO,CO,sx,sy,hnn,⟨As,Cs,dN⟩,⟨At,Ct,dM⟩⟩:=ô h hx hy;have LK:=QA (fun(W:World)(hW:Below w.heap.size w W)=>Gv (h.later hW) x hx);have XY:=QA (fun(W:World)(hW:Below w.heap.size w W)=>Gu (h.later hW) y hy);have IL:=QA (fun(W:World)(hW:Below w.heap.size w W)=>U4 (h.later hW) hf x y hx hy);have sK:=QA (fun(W:World)(hW:Below w.heap.size w W)=>Qjj (h.later hW) hf x y hx hy);have HH1:=QA (fun(W:World)(hW:Below w.heap.size w W)=>Qji (h.later hW) hf y x hy hx);have sQ:=QA (fun(W:World)(hW:Below w.heap.size w W)=>Qej (h.later hW) hf x y hx hy);have wW:=QA (fun(W:World)(hW:Below w.heap.size w W)=>Ql2 (h.later hW) hf x y hx hy);have HNM:=QA (fun(W:World)=>Qjd (a.at_ x).k W);have HV:Hid (near a b M x y=if !QQ M.1 x||(!QQ M.2 y || !((a.at_ x).k==(b.at_ y).k))then 0 else if JU a b x y then 16 else if Kn a b x y||Kn b a y x then 0 else if En (a.at_ x).k&&(!((a.at_ x).x.toList==(b.at_ y).x.toList) && !Xm a b x y)then 0 else Es a b x y):=rfl;generalize near a b M x y=R at *;generalize QQ M.1 x=f0 at *;generalize QQ M.2 y=f1 at *;generalize JU a b x y=al at *;generalize Kn a b x y=h0 at *;generalize Kn b a y x=h1 at *;generalize Xm a b x y=ae at *;generalize Es a b x y=cm at *;generalize En (a.at_ x).k=nm at *;have hx0:(0:Int)≤(x:Int):=ω
 have hy0:(0:Int)≤(y:Int):=ω
 have hx1:(x:Int)<(a.n:Int):=ω
 have hy1:(y:Int)<(b.n:Int):=ω
 generalize a.at_ x=nx at *;generalize b.at_ y=ny at *;subst dN;subst dM;have Sk:=QA hnn;clear h hf hnn;go_enter Tryz.func97,Tryz.ntmps97
 go_upto_region 1 with(fail)
 go_cut [7,8]from 9 to 26 (fun s7 s8 W=>∃p q:Nat,s7=π (some ⟨p,0,none⟩)∧s8=π (some ⟨q,0,none⟩)∧Hid (Two w W p q (zH nx (ς As nx.c.len Cs)) (zH ny (ς At ny.c.len Ct))))
 case first =>
  have KQ:Hid (∀W,Below w.heap.size w W→(W.cell? ⟨g,0,none⟩=some (ς (some ⟨gN,oN,none⟩) a.n CN)∧W.cell? ⟨gN,oN+x*4,none⟩=some (ι γ nx.k)∧W.cell? ⟨gN,oN+x*4+1,none⟩=some (σ nx.x)∧W.cell? ⟨gN,oN+x*4+2,none⟩=some (σ nx.y)∧W.cell? ⟨gN,oN+x*4+3,none⟩=some (ς As nx.c.len Cs)∧W.cell? ⟨g,4,none⟩=some (ς (some ⟨gO,oO,none⟩) b.n CO)∧W.cell? ⟨gO,oO+y*4,none⟩=some (ι γ ny.k)∧W.cell? ⟨gO,oO+y*4+1,none⟩=some (σ ny.x)∧W.cell? ⟨gO,oO+y*4+2,none⟩=some (σ ny.y)∧W.cell? ⟨gO,oO+y*4+3,none⟩=some (ς At ny.c.len Ct))):=fun W hW=>by
   exact c113
  go_region_held_law (fun W=>(W.cell? ⟨g,0,none⟩=some (ς (some ⟨gN,oN,none⟩) a.n CN)∧W.cell? ⟨gN,oN+x*4,none⟩=some (ι γ nx.k)∧W.cell? ⟨gN,oN+x*4+1,none⟩=some (σ nx.x)∧W.cell? ⟨gN,oN+x*4+2,none⟩=some (σ nx.y)∧W.cell? ⟨gN,oN+x*4+3,none⟩=some (ς As nx.c.len Cs)∧W.cell? ⟨g,4,none⟩=some (ς (some ⟨gO,oO,none⟩) b.n CO)∧W.cell? ⟨gO,oO+y*4,none⟩=some (ι γ ny.k)∧W.cell? ⟨gO,oO+y*4+1,none⟩=some (σ ny.x)∧W.cell? ⟨gO,oO+y*4+2,none⟩=some (σ ny.y)∧W.cell? ⟨gO,oO+y*4+3,none⟩=some (ς At ny.c.len Ct))) (first|exact KQ.out _ (QE _ _).drew|exact KQ.out _ ((QE _ _).alloc (QI _) _).drew|exact KQ.out _ (((QE _ _).alloc (QI _) _).alloc ψ _).drew) (fail)
  all_goals(go_wp2_with fail;go_meet)
  all_goals first
   |exact⟨_,_,rfl,rfl,rD _ _ _⟩
   |exact⟨_,_,rfl,rfl,(rD _ _ _).swap⟩
 case rest =>
  obtain⟨p,q,rfl,rfl,HT⟩:=hcut;obtain⟨u0,u1,u2,u3⟩:=N7 HT.out.fst;obtain⟨t0,t1,t2,t3⟩:=N7 HT.out.snd;have HB:=QA HT.out.QF;obtain⟨w3,rfl⟩:∃w3,w3=wc:=⟨_,rfl⟩;have HQ:Hid (∀q,Below w.heap.size w (w3.drewN q)):=fun q=>⟨HB.out.os,HB.out.tape,HB.out.output,HB.out.size,HB.out.block⟩
  clear Sk HT;go_wp2_with fail;refine(LK.out _ HB.out).mono ?_;rintro e w9 ⟨rfl,q1,rfl⟩;cases f0 with
  |false=>have HR:Hid (R=0):=HV.out;exact c45
  |true =>
  go_wp2_with fail;refine(XY.out _ (HQ.out _)).mono ?_;rintro e w9 ⟨rfl,q2,rfl⟩;cases f1 with
  |false=>have HR:Hid (R=0):=HV.out;exact c45
  |true =>
  by_cases hk:nx.k=ny.k
  ·have hk':(nx.k != ny.k)=false:=by simp[hk]
   have hk2:(nx.k==ny.k)=true:=by simp[hk]
   have Sz:Hid (R=if al then 16 else if h0||h1 then 0 else if nm&&(!(nx.x.toList==ny.x.toList) && !ae)then 0 else cm):=by show _=_;rw[HV.out,hk2];rfl
   clear HV;go_wp2_with fail;refine(IL.out _ (HQ.out _)).mono ?_;rintro e w9 ⟨rfl,q3,rfl⟩;cases al with
   |true=>have HR:Hid (R=16):=Sz.out;exact c45
   |false =>
   go_wp2_with fail;refine(sK.out _ (HQ.out _)).mono ?_;rintro e w9 ⟨rfl,q4,rfl⟩;cases h0 with
   |true=>have HR:Hid (R=0):=Sz.out;exact c45
   |false =>
   go_wp2_with fail;refine(HH1.out _ (HQ.out _)).mono ?_;rintro e w9 ⟨rfl,q5,rfl⟩;cases h1 with
   |true=>have HR:Hid (R=0):=Sz.out;exact c45
   |false =>
   have Ii:Hid (R=if nm&&(!(nx.x.toList==ny.x.toList) && !ae)then 0 else cm):=Sz.out;clear Sz;clear hk hk' hk2;go_wp2_with fail;refine(HNM.out _).mono ?_;rintro e w9 ⟨rfl,q6,rfl⟩;cases nm with
   |false=>have HR:Hid (R=cm):=Ii.out;exact c34
   |true =>
   by_cases ht:nx.x.toList=ny.x.toList
   ·have ht':(nx.x.toList==ny.x.toList)=true:=by rw[ht];exact beq_self_eq_true _
    have HR:Hid (R=cm):=by show _=_;rw[Ii.out,ht'];rfl
    clear ht;exact c34
   ·have ht':(nx.x.toList==ny.x.toList)=false:=beq_eq_false_iff_ne.2 ht;have HV4:Hid (R=if !ae then 0 else cm):=by show _=_;rw[Ii.out,ht'];rfl
    clear ht Ii;go_wp2_with fail;refine(sQ.out _ (HQ.out _)).mono ?_;rintro e w9 ⟨rfl,q7,rfl⟩;cases ae with
    |false=>have HR:Hid (R=0):=HV4.out;exact c45
    |true=>have HR:Hid (R=cm):=HV4.out;exact c34
  ·have hk':(nx.k != ny.k)=true:=by simp[hk]
   have hk2:(nx.k==ny.k)=false:=by simp[hk]
   have HR:Hid (R=0):=by show _=_;rw[HV.out,hk2];rfl
   exact c45
end Match
namespace Match
open Mem Tree Shape
theorem Gs:(Tryz.prog.info? 32).map (fun i=>(i.zero,i.size,i.bytes))=some (some (ς none 0 0),1,24):=χ
def Jp(n:Nat):Array Value:=(List.replicate n (ς none 0 0)).toArray
theorem Qfq(n:Nat)(hn:n≤1000000)(w:World):(Instr.makeSlice 33 (ι γ (n:Int)) (ι γ (n:Int))).run Tryz.prog w=.ok (ς (some ⟨w.heap.size,0,none⟩) n n) (w.alloc (θ (Jp n) 32)):=by
 obtain⟨i0,hi0,hz0,hz1,hz2⟩:=info_parts Gs;have h:=run_make (P:=Tryz.prog) w 33 32 i0 (ς none 0 0) Tryz.underlying33 hi0 hz0 γ γ n n ω (Int.le_refl _) (by rw[hz2];omega) ω;rw[h];simp only[Int.toNat_natCast]
 congr 2
 have:madeCells (ς none 0 0).cells (n*i0.size)=Jp n:=by unfold Jp;rw[hz1,Nat.mul_one];apply Array.toList_inj.1;have:=toList_madeCells_one (ς none 0 0) n;simp only[Value.cells];rw[this]
 rw[this]
def NI:Value:=ς none 0 0
def TR(gW gS p p':Nat)(cW cS:List Value)(KW KS:List (List Nat)):List QC :=
 Qb 32 1 (ς (some ⟨gW,0,none⟩) p p) p cW::Qb 32 1 (ς (some ⟨gS,0,none⟩) p' p') p' cS::(VW cW KW++VW cS KS)
structure T2(W:World)(B gW gS p p':Nat)(KW KS:List (List Nat)):Prop where
 all:∃cW cS,QH W B (TR gW gS p p' cW cS KW KS)∧cW.length=p∧cS.length=p'∧(∀i:Nat,KW[i]?=some []→cW[i]?=some NI)∧(∀i:Nat,KS[i]?=some []→cS[i]?=some NI)
 lW:KW.length=p
 lS:KS.length=p'
section
variable {W W':World}{B gW gS p p':Nat}{KW KS:List (List Nat)}
theorem T2.later(h:T2 W B gW gS p p' KW KS)(hb:Below W.heap.size W W'):T2 W' B gW gS p p' KW KS:=by
 obtain⟨cW,cS,hF,h1⟩:=h.all;exact⟨⟨cW,cS,hF.later hb,h1⟩,h.lW,h.lS⟩
theorem T2.VB(h:T2 W B gW gS p p' KW KS){i:Nat}{l:List Nat}(hi:KW[i]?=some l):∃A C,W.cell? ⟨gW,i,none⟩=some (ς A l.length C)∧Vx W (In B W.heap.size) A (l.map nv):=by
 obtain⟨cW,cS,hF,EL,XE,_⟩:=h.all;have hl:=(List.getElem?_eq_some_iff.1 hi).1;obtain⟨u,hu⟩:∃u,cW[i]?=some u:=⟨_,QN (by rw[EL,←h.lW];exact hl)⟩;have hr:(TR gW gS p p' cW cS KW KS)[i+2]?=some (Qb 3 1 u l.length (l.map nv)):=by show(VW cW KW++VW cS KS)[i]?=_;have:=Xg hu hi;rw[PX (List.getElem?_eq_some_iff.1 this).1,this]
 obtain⟨A,C,e,_,_,Lb⟩:=hF.Nb hr;rw[VD]at e;exact⟨A,C,by rw[←e];exact hF.cell (i:=0) rfl hu,Lb⟩
theorem T2.Av(h:T2 W B gW gS p p' KW KS){i:Nat}{l:List Nat}(hi:KS[i]?=some l):∃A C,W.cell? ⟨gS,i,none⟩=some (ς A l.length C)∧Vx W (In B W.heap.size) A (l.map nv):=by
 obtain⟨cW,cS,hF,EL,XE,_⟩:=h.all;have hl:=(List.getElem?_eq_some_iff.1 hi).1;obtain⟨u,hu⟩:∃u,cS[i]?=some u:=⟨_,QN (by rw[XE,←h.lS];exact hl)⟩;have hr:(TR gW gS p p' cW cS KW KS)[(p+i)+2]?=some (Qb 3 1 u l.length (l.map nv)):=by show(VW cW KW++VW cS KS)[p+i]?=_;have:=Xg hu hi;have hlen:=Ye cW KW (by rw[EL,h.lW]);rw[GK (by rw[hlen,h.lW];omega),hlen,h.lW,show p+i-p=i by omega,this]
 obtain⟨A,C,e,_,_,Lb⟩:=hF.Nb hr;rw[VD]at e;exact⟨A,C,by rw[←e];exact hF.cell (i:=1) rfl hu,Lb⟩
theorem ĵ{cW cS:List Value}{i:Nat}{u:Value}{l:List Nat}(hi:i<cW.length)(hl:cW.length=KW.length):((TR gW gS p p' cW cS KW KS).set (i+2) (Qb 3 1 u l.length (l.map nv))).set 0 (Qb 32 1 (ς (some ⟨gW,0,none⟩) p p) p (cW.set i u))=TR gW gS p p' (cW.set i u) cS (KW.set i l) KS:=by
 unfold TR;simp only[List.set_cons_succ,List.set_cons_zero];rw[List.set_append_left _ _ (by rw[Ye cW KW hl,←hl];exact hi),Uy cW KW i u l hl]
theorem Ĵ{cW cS:List Value}{i:Nat}{u:Value}{l:List Nat}(hl0:cW.length=KW.length)(hp:KW.length=p)(hl:cS.length=KS.length):((TR gW gS p p' cW cS KW KS).set ((p+i)+2) (Qb 3 1 u l.length (l.map nv))).set 1 (Qb 32 1 (ς (some ⟨gS,0,none⟩) p' p') p' (cS.set i u))=TR gW gS p p' cW (cS.set i u) KW (KS.set i l):=by
 unfold TR;simp only[List.set_cons_succ,List.set_cons_zero];have hlen:=Ye cW KW hl0;rw[List.set_append_right _ _ (by rw[hlen,hp];omega),hlen,hp,show p+i-p=i by omega,Uy cS KS i u l hl]
theorem Gg{α:Type}{l:List α}{i:Nat}{v:α}(h:l[i]?=some v):l.set i v=l:=by
 obtain⟨h1,h2⟩:=List.getElem?_eq_some_iff.1 h;rw[←h2,List.set_getElem_self]
theorem T2.jy(h:T2 W B gW gS p p' KW KS){i j:Nat}{l:List Nat}(hi:KW[i]?=some l)(hj:j<l.length)(z:Nat):∃g C,W.cell? ⟨gW,i,none⟩=some (ς (some ⟨g,0,none⟩) l.length C)∧(∃u,W.cell? ⟨g,j,none⟩=some u)∧W.frozen? ⟨g,j,none⟩=false∧
 T2 (W.setCell ⟨g,j,none⟩ (nv z)) B gW gS p p' (KW.set i (l.set j z)) KS∧Below B W (W.setCell ⟨g,j,none⟩ (nv z)):=by
 obtain⟨cW,cS,hF,EL,XE,n1,n2⟩:=h.all;have hl:=(List.getElem?_eq_some_iff.1 hi).1;obtain⟨u,hu⟩:∃u,cW[i]?=some u:=⟨_,QN (by rw[EL,←h.lW];exact hl)⟩;have hr:(TR gW gS p p' cW cS KW KS)[i+2]?=some (Qb 3 1 u l.length (l.map nv)):=by show(VW cW KW++VW cS KS)[i]?=_;have:=Xg hu hi;rw[PX (List.getElem?_eq_some_iff.1 this).1,this]
 obtain⟨g,C,rfl,_,_⟩:=hF.sliceAt hr ω;have hc:=hF.cell (i:=0) rfl hu;have hce:=hF.cell hr (j:=j) (u:=nv (l[j])) (by rw[VP,QN hj];rfl);obtain⟨hs,hb⟩:=hF.store hr j (nv z);refine⟨g,C,hc,⟨_,hce⟩,hF.JO hr j,⟨⟨cW,cS,?_,EL,XE,fun i' he=>?_,n2⟩,by rw[List.length_set];exact h.lW,h.lS⟩,hb⟩
 ·have e:=ĵ (gW:=gW) (gS:=gS) (p:=p) (p':=p') (cS:=cS) (KW:=KW) (KS:=KS) (i:=i) (u:=ς (some ⟨g,0,none⟩) l.length C) (l:=l.set j z) (by rw[EL,←h.lW];exact hl) (by rw[EL,h.lW]);rw[Gg hu]at e;rw[←e];have e2:((TR gW gS p p' cW cS KW KS).set (i+2) (Qb 3 1 (ς (some ⟨g,0,none⟩) l.length C) (l.set j z).length ((l.set j z).map nv))).set 0 (Qb 32 1 (ς (some ⟨gW,0,none⟩) p p) p cW)=(TR gW gS p p' cW cS KW KS).set (i+2) (Qb 3 1 (ς (some ⟨g,0,none⟩) l.length C) (l.set j z).length ((l.set j z).map nv)):=Gg (by rfl);rw[e2,List.length_set,List.map_set];exact hs
 ·rw[List.getElem?_set]at he;by_cases Nu:i=i'
  ·rw[if_pos Nu,if_pos ω]at he;injection he with he;have:=congrArg List.length he;rw[List.length_set,List.length_nil]at this;omega
  ·rw[if_neg Nu]at he;exact n1 i' he
theorem T2.jz(h:T2 W B gW gS p p' KW KS){i j:Nat}{l:List Nat}(hi:KS[i]?=some l)(hj:j<l.length)(z:Nat):∃g C,W.cell? ⟨gS,i,none⟩=some (ς (some ⟨g,0,none⟩) l.length C)∧(∃u,W.cell? ⟨g,j,none⟩=some u)∧W.frozen? ⟨g,j,none⟩=false∧
 T2 (W.setCell ⟨g,j,none⟩ (nv z)) B gW gS p p' KW (KS.set i (l.set j z))∧Below B W (W.setCell ⟨g,j,none⟩ (nv z)):=by
 obtain⟨cW,cS,hF,EL,XE,n1,n2⟩:=h.all;have hl:=(List.getElem?_eq_some_iff.1 hi).1;obtain⟨u,hu⟩:∃u,cS[i]?=some u:=⟨_,QN (by rw[XE,←h.lS];exact hl)⟩;have hr:(TR gW gS p p' cW cS KW KS)[(p+i)+2]?=some (Qb 3 1 u l.length (l.map nv)):=by show(VW cW KW++VW cS KS)[p+i]?=_;have:=Xg hu hi;have hlen:=Ye cW KW (by rw[EL,h.lW]);rw[GK (by rw[hlen,h.lW];omega),hlen,h.lW,show p+i-p=i by omega,this]
 obtain⟨g,C,rfl,_,_⟩:=hF.sliceAt hr ω;have hc:=hF.cell (i:=1) rfl hu;have hce:=hF.cell hr (j:=j) (u:=nv (l[j])) (by rw[VP,QN hj];rfl);obtain⟨hs,hb⟩:=hF.store hr j (nv z);refine⟨g,C,hc,⟨_,hce⟩,hF.JO hr j,⟨⟨cW,cS,?_,EL,XE,n1,fun i' he=>?_⟩,h.lW,by rw[List.length_set];exact h.lS⟩,hb⟩
 ·have e:=Ĵ (gW:=gW) (gS:=gS) (p:=p) (p':=p') (cW:=cW) (KW:=KW) (KS:=KS) (i:=i) (u:=ς (some ⟨g,0,none⟩) l.length C) (l:=l.set j z) (cS:=cS) (by rw[EL,h.lW]) h.lW (by rw[XE,h.lS]);rw[Gg hu]at e;rw[←e];have e2:((TR gW gS p p' cW cS KW KS).set ((p+i)+2) (Qb 3 1 (ς (some ⟨g,0,none⟩) l.length C) (l.set j z).length ((l.set j z).map nv))).set 1 (Qb 32 1 (ς (some ⟨gS,0,none⟩) p' p') p' cS)=(TR gW gS p p' cW cS KW KS).set ((p+i)+2) (Qb 3 1 (ς (some ⟨g,0,none⟩) l.length C) (l.set j z).length ((l.set j z).map nv)):=Gg (by rfl);rw[e2,List.length_set,List.map_set];exact hs
 ·rw[List.getElem?_set]at he;by_cases Nu:i=i'
  ·rw[if_pos Nu,if_pos ω]at he;injection he with he;have:=congrArg List.length he;rw[List.length_set,List.length_nil]at this;omega
  ·rw[if_neg Nu]at he;exact n2 i' he
theorem ħ(W:World)(q:Nat)(hq:q≤maxLen):(Qb 3 1 (ς (some ⟨W.heap.size,0,none⟩) q q) (List.replicate q 0).length ((List.replicate q 0).map nv)).H (W.alloc (θ (iV (List.replicate q 0)).toArray 3)):=by
 have e:((List.replicate q 0).map nv)=iV (List.replicate q 0):=by unfold iV;rw[List.map_replicate,List.map_replicate];rfl
 rw[List.length_replicate,e];have:=World.ownsRow_lit (base:=0) (size:=1) W (iV (List.replicate q 0)).toArray q (e:=3) (Nat.zero_le _) hq (by simp[Xh]);exact this
theorem T2.tX(h:T2 W B gW gS p p' KW KS){i q:Nat}(hi:KW[i]?=some [])(hq:q≤1000000)(hq0:0<q):(W.alloc (θ (iV (List.replicate q 0)).toArray 3)).cell? ⟨gW,i,none⟩=some NI∧(W.alloc (θ (iV (List.replicate q 0)).toArray 3)).frozen? ⟨gW,i,none⟩=false∧
 T2 ((W.alloc (θ (iV (List.replicate q 0)).toArray 3)).setCell ⟨gW,i,none⟩ (ς (some ⟨W.heap.size,0,none⟩) q q)) B gW gS p p' (KW.set i (List.replicate q 0)) KS∧Below B W ((W.alloc (θ (iV (List.replicate q 0)).toArray 3)).setCell ⟨gW,i,none⟩ (ς (some ⟨W.heap.size,0,none⟩) q q)):=by
 obtain⟨cW,cS,hF,EL,XE,n1,n2⟩:=h.all;have hl:=(List.getElem?_eq_some_iff.1 hi).1;have hu:=n1 i hi;have hr:(TR gW gS p p' cW cS KW KS)[i+2]?=some (Qb 3 1 NI 0 []):=by show(VW cW KW++VW cS KS)[i]?=_;have:=Xg hu hi;rw[PX (List.getElem?_eq_some_iff.1 this).1,this];rfl
 have hA:=World.grownBy_alloc W (θ (iV (List.replicate q 0)).toArray 3) none;have h2:=hF.set hr (t':=Qb 3 1 (ς (some ⟨W.heap.size,0,none⟩) q q) (List.replicate q 0).length ((List.replicate q 0).map nv)) hA (ħ W q (by unfold maxLen;omega)) (.inr (.inr ⟨_,rfl,Nat.le_refl _⟩));have b1:=hF.QF hr hA;have VN:((TR gW gS p p' cW cS KW KS).set (i+2) (Qb 3 1 (ς (some ⟨W.heap.size,0,none⟩) q q) (List.replicate q 0).length ((List.replicate q 0).map nv)))[0]?=some (Qb 32 1 (ς (some ⟨gW,0,none⟩) p p) p cW):=rfl;obtain⟨h3,b2⟩:=h2.store VN i (ς (some ⟨W.heap.size,0,none⟩) q q);rw[ĵ (by rw[EL,←h.lW];exact hl) (by rw[EL,h.lW])]at h3;refine⟨h2.cell VN hu,h2.JO VN i,⟨⟨_,cS,h3,by rw[List.length_set];exact EL,XE,fun i' he=>?_,n2⟩,by rw[List.length_set];exact h.lW,h.lS⟩,b1.trans b2⟩;rw[List.getElem?_set]at he;by_cases Nu:i=i'
 ·rw[if_pos Nu,if_pos ω]at he;injection he with he;have:=congrArg List.length he;rw[List.length_replicate,List.length_nil]at this;omega
 ·rw[if_neg Nu]at he;rw[List.getElem?_set_ne Nu];exact n1 i' he
theorem T2.jU(h:T2 W B gW gS p p' KW KS){i q:Nat}(hi:KS[i]?=some [])(hq:q≤1000000)(hq0:0<q):(W.alloc (θ (iV (List.replicate q 0)).toArray 3)).cell? ⟨gS,i,none⟩=some NI∧(W.alloc (θ (iV (List.replicate q 0)).toArray 3)).frozen? ⟨gS,i,none⟩=false∧
 T2 ((W.alloc (θ (iV (List.replicate q 0)).toArray 3)).setCell ⟨gS,i,none⟩ (ς (some ⟨W.heap.size,0,none⟩) q q)) B gW gS p p' KW (KS.set i (List.replicate q 0))∧Below B W ((W.alloc (θ (iV (List.replicate q 0)).toArray 3)).setCell ⟨gS,i,none⟩ (ς (some ⟨W.heap.size,0,none⟩) q q)):=by
 obtain⟨cW,cS,hF,EL,XE,n1,n2⟩:=h.all;have hl:=(List.getElem?_eq_some_iff.1 hi).1;have hu:=n2 i hi;have hr:(TR gW gS p p' cW cS KW KS)[(p+i)+2]?=some (Qb 3 1 NI 0 []):=by show(VW cW KW++VW cS KS)[p+i]?=_;have:=Xg hu hi;have hlen:=Ye cW KW (by rw[EL,h.lW]);rw[GK (by rw[hlen,h.lW];omega),hlen,h.lW,show p+i-p=i by omega,this];rfl
 have hA:=World.grownBy_alloc W (θ (iV (List.replicate q 0)).toArray 3) none;have h2:=hF.set hr (t':=Qb 3 1 (ς (some ⟨W.heap.size,0,none⟩) q q) (List.replicate q 0).length ((List.replicate q 0).map nv)) hA (ħ W q (by unfold maxLen;omega)) (.inr (.inr ⟨_,rfl,Nat.le_refl _⟩));have b1:=hF.QF hr hA;have VN:((TR gW gS p p' cW cS KW KS).set ((p+i)+2) (Qb 3 1 (ς (some ⟨W.heap.size,0,none⟩) q q) (List.replicate q 0).length ((List.replicate q 0).map nv)))[1]?=some (Qb 32 1 (ς (some ⟨gS,0,none⟩) p' p') p' cS):=rfl;obtain⟨h3,b2⟩:=h2.store VN i (ς (some ⟨W.heap.size,0,none⟩) q q);rw[Ĵ (by rw[EL,h.lW]) h.lW (by rw[XE,h.lS])]at h3;refine⟨h2.cell VN hu,h2.JO VN i,⟨⟨cW,_,h3,EL,by rw[List.length_set];exact XE,n1,fun i' he=>?_⟩,h.lW,by rw[List.length_set];exact h.lS⟩,b1.trans b2⟩;rw[List.getElem?_set]at he;by_cases Nu:i=i'
 ·rw[if_pos Nu,if_pos ω]at he;injection he with he;have:=congrArg List.length he;rw[List.length_replicate,List.length_nil]at this;omega
 ·rw[if_neg Nu]at he;rw[List.getElem?_set_ne Nu];exact n2 i' he
end
