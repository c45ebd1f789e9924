import Derived.Test.YtmepekognmlblaaGreatDoorS30
set_option maxHeartbeats 32000000
set_option maxRecDepth 100000
set_option linter.unusedVariables false
open Go.Proofs.Tryz Go.ChangeShapes Go.WideShapes Go.ChangeAt Go.RowKit
open Go.Lib renaming hid→QA
open _root_.Nat renaming le_refl→QI,le_trans→QW,zero_le→ZR
open _root_.List renaming length_append→ZU,getElem?_eq_getElem→QN,getD_eq_getElem?_getD→QX,mem_of_getElem?→JK,getElem?_append_right→GK,getElem?_cons_succ→GV,getElem?_append_left→PX,append_nil→He,length_take→JS
open Go.World renaming block_lt_of_cell?→VJ
open Go.Value renaming int→ι,slice→ς,pointer→π
open Go.IntKind renaming i64→γ
open Go.Obj renaming cells→θ
open Go.Ending renaming returned→ρ
namespace Go.Proofs.YtmepekognmlblaaGreatDoor
namespace Match
open Mem Tree Shape
variable {w:World}{S:Nat→Prop}{g gA gB:Nat}{a b:Sd}{M:St}
theorem Qzp{N:Nat}{xs ys:List Nat}{vx vy:Value}(h0:Sc w S g N 0 a M.1 xs vx)(h1:Sc w S g N 1 b M.2 ys vy)(sd:Nat)(h:sd<2) :
 ∃s Ms row v,Sc w S g N sd s Ms row v∧v=(if sd=0 then vx else vy)∧row=zG xs ys sd∧∀m i,Yz a b M xs ys sd m i=Mz s Ms row m i:=by
 have:sd=0∨sd=1:=ω
 rcases this with rfl|rfl
 ·exact⟨a,M.1,xs,vx,h0,rfl,rfl,fun _ _=>rfl⟩
 ·exact⟨b,M.2,ys,vy,h1,rfl,rfl,fun _ _=>rfl⟩
theorem Qu.at_{v:Value}{l:List Nat}(h:Qu w S v l){i:Nat}(hi:i<l.length):∃gr o C,v=ς (some ⟨gr,o,none⟩) l.length C∧w.cell? ⟨gr,o+i,none⟩=some (.int γ ((l.getD i 0:Nat):Int)):=by
 obtain⟨A,C,e,_,_,hr⟩:=h;obtain⟨gr,o,rfl,_,hc⟩:=hr.at_ (ints_at (QN hi));exact⟨gr,o,C,e,by rw[QX,QN hi];exact hc⟩
theorem Qrj{w w8:World}{N gm cnt g13 m sd i:Nat}{f:Lit→Value}{v:Nat→Value}{L:Nat→List Nat}{v':Value}(hm:m<N)(hN:N≤1000000)(hs:sd<2)(GU:cnt≤100000)
 (hF:QH w8 w.heap.size (((Zm prog 3 (two (ς none 0 0) (ς none 0 0)) gm cnt f::Qw (2*N) v L)++[Qb 58 2 (ς (some ⟨g13,0,none⟩) 1 1) 1 [v (2*m),v (2*m+1)]]).set (2*m+sd+1) (Qb 3 1 v' ((L (2*m+sd)).length+1) (iV (ints (L (2*m+sd)))++[.int γ (i:Int)]))))
 (hb:Below w.heap.size w w8) (hat:∀m,m<N→f (Yq m)=two (v (2*m)) (v (2*m+1))) :
 (∃u,w8.cell? ⟨g13,sd,none⟩=some u)∧w8.frozen? ⟨g13,sd,none⟩=false∧(∃A C,v'=ς A ((L (2*m+sd)).length+1) C)∧
 ∃A0 n0 C0 A1 n1 C1,(w8.setCell ⟨g13,sd,none⟩ v').cell? ⟨g13,0,none⟩=some (ς A0 n0 C0)∧(w8.setCell ⟨g13,sd,none⟩ v').cell? ⟨g13,1,none⟩=some (ς A1 n1 C1)∧
  ∃UT,(Instr.mapUpdate 123 (.map (some gm)) (.int γ (m:Int)) (.agg #[ς A0 n0 C0,ς A1 n1 C1])).run prog (w8.setCell ⟨g13,sd,none⟩ v')=.ok () UT∧∃f',Seen w UT N gm (cnt+1) f' (upd v (2*m+sd) v') (upd L (2*m+sd) (L (2*m+sd)++[i])):=by
 have hj:2*m+sd<2*N:=ω
 have e1:((Zm prog 3 (two (ς none 0 0) (ς none 0 0)) gm cnt f::Qw (2*N) v L)++[Qb 58 2 (ς (some ⟨g13,0,none⟩) 1 1) 1 [v (2*m),v (2*m+1)]]).set (2*m+sd+1) (Qb 3 1 v' ((L (2*m+sd)).length+1) (iV (ints (L (2*m+sd)))++[.int γ (i:Int)])) =
  Zm prog 3 (two (ς none 0 0) (ς none 0 0)) gm cnt f::(Qw (2*N) (upd v (2*m+sd) v') (upd L (2*m+sd) (L (2*m+sd)++[i]))++[Qb 58 2 (ς (some ⟨g13,0,none⟩) 1 1) 1 [v (2*m),v (2*m+1)]]):=by
  rw[List.cons_append,List.set_cons_succ,List.set_append_left _ _ (by rw[Qe];exact hj),←ow];unfold iV ints;rw[List.map_append,List.map_append,ZU];rfl
 rw[e1]at hF;have hlast:(Zm prog 3 (two (ς none 0 0) (ς none 0 0)) gm cnt f::(Qw (2*N) (upd v (2*m+sd) v') (upd L (2*m+sd) (L (2*m+sd)++[i]))++[Qb 58 2 (ς (some ⟨g13,0,none⟩) 1 1) 1 [v (2*m),v (2*m+1)]]))[2*N+1]?=some (Qb 58 2 (ς (some ⟨g13,0,none⟩) 1 1) 1 [v (2*m),v (2*m+1)]):=by rw[GV,GK (by rw[Qe];exact QI _),Qe,Nat.sub_self];rfl
 have hrow:∀j,j<2*N→(Zm prog 3 (two (ς none 0 0) (ς none 0 0)) gm cnt f::(Qw (2*N) (upd v (2*m+sd) v') (upd L (2*m+sd) (L (2*m+sd)++[i]))++[Qb 58 2 (ς (some ⟨g13,0,none⟩) 1 1) 1 [v (2*m),v (2*m+1)]]))[j+1]?=some (Qb 3 1 (upd v (2*m+sd) v' j) (upd L (2*m+sd) (L (2*m+sd)++[i]) j).length (iV (ints (upd L (2*m+sd) (L (2*m+sd)++[i]) j)))):=by intro j hj';rw[GV,PX (by rw[Qe];exact hj'),Vs _ _ hj']
 have hsl:=hF.slice (hrow (2*m+sd) hj);rw[Zo,Zo,ZU,List.length_singleton]at hsl;obtain⟨A,C,hv',_,_⟩:=hsl;obtain⟨A0,C0,h0,_,_⟩:=hF.slice (hrow (2*m) ω);obtain⟨A1,C1,h1,_,_⟩:=hF.slice (hrow (2*m+1) ω);have hc:∃u,w8.cell? ⟨g13,sd,none⟩=some u:=by
  have RY:sd=0∨sd=1:=ω
  rcases RY with rfl|rfl
  ·exact⟨_,hF.cell hlast (j:=0) rfl⟩
  ·exact⟨_,hF.cell hlast (j:=1) rfl⟩
 obtain⟨Mo,U'⟩:=hF.store hlast sd v';rw[List.set_cons_succ,List.set_append_right _ _ (by rw[Qe];exact QI _),Qe,Nat.sub_self,List.set_cons_zero]at Mo;have ZV:([v (2*m),v (2*m+1)]:List Value).set sd v'=[upd v (2*m+sd) v' (2*m),upd v (2*m+sd) v' (2*m+1)]:=by
  have RY:sd=0∨sd=1:=ω
  rcases RY with rfl|rfl
  ·exact c125
  ·rw[Zo,V1 v v' (by omega:2*m≠2*m+1)];rfl
 rw[ZV]at Mo;have Le:(Zm prog 3 (two (ς none 0 0) (ς none 0 0)) gm cnt f::(Qw (2*N) (upd v (2*m+sd) v') (upd L (2*m+sd) (L (2*m+sd)++[i]))++[Qb 58 2 (ς (some ⟨g13,0,none⟩) 1 1) 1 [upd v (2*m+sd) v' (2*m),upd v (2*m+sd) v' (2*m+1)]]))[2*N+1]?=some (Qb 58 2 (ς (some ⟨g13,0,none⟩) 1 1) 1 [upd v (2*m+sd) v' (2*m),upd v (2*m+sd) v' (2*m+1)]):=by rw[GV,GK (by rw[Qe];exact QI _),Qe,Nat.sub_self];rfl
 have hc0:=Mo.cell Le (j:=0) rfl;have hc1:=Mo.cell Le (j:=1) rfl;refine⟨hc,hF.JO hlast sd,⟨A,C,hv'⟩,A0,_,C0,A1,_,C1,by rw[←h0];exact hc0,by rw[←h1];exact hc1,?_⟩;obtain⟨UT,hr,WX,UA,_⟩:=fM (i:=0) (e:=58) (t:=123) Mo rfl (Maps.int_keyed underlying3) underlying123 (by unfold maxLen;omega) (ft (m:=m) ω) (val:=.agg #[upd v (2*m+sd) v' (2*m),upd v (2*m+sd) v' (2*m+1)]);rw[h0,h1]at hr;refine⟨UT,hr,KN f (Yq m) (.agg #[upd v (2*m+sd) v' (2*m),upd v (2*m+sd) v' (2*m+1)]),⟨WX.sub ?_,fun m' hm'=>?_,(hb.trans U').trans UA⟩⟩
 ·exact c133
 ·by_cases e:m'=m
  ·subst e;rw[Gb];rfl
  ·rw[E0 _ _ (ö e),hat m' hm',V1 v v' (by omega:2*m'≠2*m+sd),V1 v v' (by omega:2*m'+1≠2*m+sd)]
def U8(a b:Sd)(M:St)(xs ys:List Nat)(i:Nat):List NP:=(List.range i).flatMap (V2 a b M xs ys)
theorem Qcx(a b:Sd)(M:St)(xs ys:List Nat)(i:Nat):U8 a b M xs ys (i+1)=U8 a b M xs ys i++V2 a b M xs ys i:=by
 unfold U8;rw[List.range_succ,List.flatMap_append,List.flatMap_singleton]
theorem Qnz(a b:Sd)(M:St)(xs ys:List Nat)(i:Nat):(V2 a b M xs ys i).length≤1:=by
 unfold V2;split
 ·split
  ·exact QI _
  ·exact ZR _
 ·split
  ·exact QI _
  ·exact ZR _
theorem ir(a b:Sd)(M:St)(xs ys:List Nat):∀i,(U8 a b M xs ys i).length≤i
 |0=>QI _
 |i+1=>by
  have h1:=ir a b M xs ys i;have h2:=Qnz a b M xs ys i;rw[Qcx,ZU];omega
theorem Qex(l:List Nat)(z:Int):(ints l).contains z=l.any fun q=>((q:Nat):Int)==z:=by
 unfold ints
 induction l with
 |nil=>rfl
 |cons q r ih =>
  rw[List.map_cons,List.contains_cons,List.any_cons,ih]
  congr 1
  rw[Bool.eq_iff_iff,beq_iff_eq,beq_iff_eq];exact eq_comm
theorem Qzb{w:World}{S:Nat→Prop}{v:Value}{l:List Nat}(h:Qu w S v l)(hr:(ints l).Pairwise (·≤·))(hl:l.length≤20000)(z:Int) :
 Calls prog 96 #[v,.int γ z] w fun e w'=>e=ρ (.tuple #[.int γ ((l.countP fun q=>decide (((q:Nat):Int)<z):Nat):Int),.bool (l.any fun q=>((q:Nat):Int)==z)])∧∃q,w'=w.drewN q:=by
 have e1:(ints l).countP (·<z)=l.countP fun q=>decide (((q:Nat):Int)<z):=by unfold ints;rw[List.countP_map];rfl
 have e2:=Qex l z;obtain⟨A,C,rfl,q1,q2,Lb⟩:=h;by_cases h0:l.length=0
 ·rw[List.length_eq_zero_iff]at h0;subst h0;refine(Tryz.ZF A C z w).mono ?_;rintro e w' ⟨rfl,rfl⟩;exact⟨rfl,0,rfl⟩
 ·obtain⟨gr,o,rfl,_,_⟩:=Lb.at_ (ints_at (QN (by omega:0<l.length)));have hil:(ints l).length=l.length:=by unfold ints;rw[List.length_map]
  have ht:(ints l).take l.length=ints l:=by rw[←hil,List.take_length]
  refine(Tryz.ZG gr o l.length C (ints l) z w ω ω (fun j hj=>?_) (by rw[ht];exact hr)).mono ?_
  ·obtain⟨g',o',e',_,hc⟩:=Lb.at_ (ints_at (QN (by omega:j<l.length)));injection e' with e';injection e' with e4 e5;subst e4;subst e5;rw[hc];unfold ints;rw[QX,List.getElem?_map,QN (by omega:j<l.length)];rfl
  ·rintro e w' ⟨rfl,hq⟩;refine⟨?_,hq⟩;rw[ht,e1,e2]
theorem ř(x y:Value)(W:World):(Instr.index 58 (.agg #[x,y]) (.int γ 0)).run prog W=.ok x W∧(Instr.index 58 (.agg #[x,y]) (.int γ 1)).run prog W=.ok y W:=⟨χ,χ⟩
theorem Qqy(h:MS w S g gA gB a b M)(hf:Fit a b)(xs ys:List Nat)(vx vy:Value)(hx:∀x∈xs,x<a.n)(hy:∀y∈ys,y<b.n)(rx:Qu w S vx xs)(ry:Qu w S vy ys)(hp:xs.length≤20000)(hq:ys.length≤20000)(hys:(ints ys).Pairwise (·≤·)) :
 Calls prog 65 #[π (some ⟨g,0,none⟩),vx,vy] w fun e w'=>Below w.heap.size w w'∧∃v,e=ρ v∧Qm w' (In w.heap.size w'.heap.size) v (toP (Kq a b M xs ys)):=by
 have JL:=QA h;have HF:=QA hf;obtain⟨N,hN⟩:∃N:Nat,N=1000000:=⟨_,rfl⟩;have HNA:Hid (∀x,x<a.n→a.no x<N):=fun x hx=>by rw[hN];exact hf.fa _ (JK (Jo hf.la hx))
 have qW:Hid (∀x,x<b.n→b.no x<N):=fun x hx=>by rw[hN];exact hf.fb _ (JK (Jo hf.lb hx))
 have LY:=QA (Ö h hf hx rx hp HNA.out);have SA:=QA (Ø h hf hy ry hq qW.out);have Im:=QA ry;have WS:N≤1000000:=ω
 have CE:=Seen.start w N;rw[←Qt9 (a:=a) (b:=b) (M:=M) (xs:=xs) (ys:=ys)]at CE;have DU:=QA CE;obtain⟨Ax,Cx,rfl,_,_⟩:=rx.slice;obtain⟨Ay,Cy,rfl,_,_⟩:=ry.slice;obtain⟨lx,hlx⟩:=Mem.QD (xs.length);obtain⟨ly,SY⟩:=Mem.QD (ys.length);have NS:=QA hlx;have Iy:=QA SY;have je:=QA hp;have jd:=QA hq;rw[hlx]at LY⊢;rw[SY]at SA⊢;clear h hf hx hy rx ry hp hq hN CE hlx SY;have mk:(Instr.makeMap 123 none).run prog w=.ok (.map (some w.heap.size)) (w.alloc (.map #[] 0)):=by rw[run_makeMap]
 go_enter func65,ntmps65
 go_upto_region 2 with(fail)
 generalize w.alloc (.map #[] 0)=w1 at *;clear mk;generalize Dl:w.heap.size=gm at DU⊢;clear Dl;go_wp2
 go_loopw [24] (fun Ap wr=>∃(sd cnt:Nat)(f:Lit→Value)(v:Nat→Value),sd≤2∧Ap=.int γ (sd:Int)∧cnt≤sd*20000∧Hid (Seen w wr N gm cnt f v (XV a b M xs ys sd 0))) (fun s _=>2-(intOf s).toNat)
 case atStart=>exact⟨0,0,_,_,ω,rfl,ω,DU⟩
 case round =>
  clear DU;obtain⟨sd,cnt,f,v,Oa,rfl,GU,TS⟩:=hrel;by_cases hlt:sd<2
  ·obtain⟨s,Ms,row,vr,OO,kv,hrow,PJ⟩:=Qzp LY.out SA.out sd hlt;have hlt':(sd:Int)<2:=ω
   have kI:(0:Int)≤(sd:Int):=ω
   go_upto_region 4 with(fail)
   go_cut [8,9,24]from 24 to 64 (fun s8 s9 Ap W=>s8=.int γ (sd:Int)∧s9=vr∧Ap=.int γ (sd:Int)∧W=wr)
   case first =>
    have RY:sd=0∨sd=1:=ω
    rcases RY with rfl|rfl
    ·rw[if_pos rfl]at kv;subst kv;clear OO PJ;rw[show((0:Nat):Int)=0 from rfl];have ix:=(ř (ς Ax lx Cx) (ς Ay ly Cy) wr).1;go_wp2
     go_meet
     case rel=>exact⟨rfl,rfl,rfl,rfl⟩
    ·rw[if_neg ω]at kv;subst kv;clear OO PJ;rw[show((1:Nat):Int)=1 from rfl];have ix:=(ř (ς Ax lx Cx) (ς Ay ly Cy) wr).2;go_wp2
     go_meet
     case rel=>exact⟨rfl,rfl,rfl,rfl⟩
   case rest =>
    obtain⟨rfl,rfl,rfl,rfl⟩:=hcut;have Wu:=OO.len;clear kv;obtain⟨Ar,Cr,rfl,_,_⟩:=OO.Au.slice;obtain⟨lr,hlr⟩:=Mem.QD (row.length);have jc:=QA hlr;rw[hlr]at OO Wu⊢;have Pp:=QA OO;have HPQ:=QA PJ;have XP:=QA hrow;clear hlr OO PJ hrow
    go_upto_region 5 with(fail)
    go_wp2
    go_loopw [30] (fun jv wr=>∃(i cnt:Nat)(f:Lit→Value)(v:Nat→Value),i≤lr∧jv=.int γ (i:Int)∧cnt≤sd*20000+i∧Hid (Seen w wr N gm cnt f v (XV a b M xs ys sd i))) (fun s _=>lr-(intOf s).toNat)
    case atStart=>exact⟨0,cnt,f,v,ZR _,rfl,ω,TS⟩
    case round =>
     clear TS GU;obtain⟨i,cnt,f,v,hi,rfl,GU,TS⟩:=hrel;by_cases hil:i<lr
     ·have Q3m:(i:Int)<(lr:Int):=ω
      have hi0:(0:Int)≤(i:Int):=ω
      obtain⟨gr,o,C,er,d1⟩:=Pp.out.Au.at_ (i:=i) (by rw[jc.out];exact hil);injection er with e1 e2 e3;subst e1;subst e3;clear e2;obtain⟨x,hx⟩:=Mem.QD (row.getD i 0);have HX:=QA hx;rw[hx]at d1;have SQ:x<s.n:=Pp.out.hx x (by rw[←hx];exact QJ (by rw[jc.out];exact hil));have Tf:=(TS.out.QF.cell (VJ _ _ d1)).trans d1;have Hk:=QA (Pp.out.free wr x TS.out.QF SQ);obtain⟨gM,oM,CM,gN,oN,CN,n1,n2,n3⟩:=Pp.out.Nj;obtain⟨m,hm⟩:=Mem.QD (s.no x);have HM:=QA hm;have n3:=n3 x SQ;rw[hm]at n3;have Sw:m<N:=by rw[←hm];exact Pp.out.nob x SQ
      obtain⟨fr,XM⟩:=Mem.QD (QQ Ms x);have TX:=QA XM;rw[XM]at Hk;clear hx hm XM d1;go_wp2_with fail;refine Hk.out.mono ?_;rintro e w6 ⟨rfl,qd,GS⟩;have VH:Below wr.heap.size wr w6:=by rw[GS];exact⟨rfl,rfl,rfl,QI _,fun _ _=>rfl⟩
      have UE:=QA (TS.out.later VH);clear GS VH Tf Hk TS;cases fr with
      |false =>
       go_wp2
       go_roundw
       case rel=>exact⟨i+1,cnt,f,v,ω,by go_num,ω,by rw[Qua HPQ.out (by rw[HX.out];exact TX.out)];exact UE⟩
       case measure=>simp[intOf];omega
      |true =>
       have ni:=(UE.out.QF.cell (VJ _ _ n1)).trans n1;have ng:=(UE.out.QF.cell (VJ _ _ n2)).trans n2;have tZ:=(UE.out.QF.cell (VJ _ _ n3)).trans n3;have SP:(x:Int)<(s.n:Int):=ω
       have hx0:(0:Int)≤(x:Int):=ω
       have ml:(sd:Int)<2:=ω
       have hlk:=UE.out.look Sw WS;obtain⟨A0,C0,e0,q0,_⟩:=(UE.out.row (j:=2*m) ω).slice;obtain⟨A1,C1,e1,q1,_⟩:=(UE.out.row (j:=2*m+1) ω).slice;rw[e0,e1]at hlk;clear n1 n2 n3
       go_upto_region 11 with(fail)
       clear hlk ni ng tZ SP hx0 SQ;obtain⟨Aj,Cj,ej,_,_⟩:=(UE.out.row (j:=2*m+sd) ω).slice;obtain⟨lj,YI⟩:=Mem.QD ((XV a b M xs ys sd i (2*m+sd)).length);have NW:=QA YI;rw[YI]at ej;have mP:lj≤20000:=by rw[←YI];exact Qw2 sd i _ je.out jd.out ω
       have gG:QH (w6.alloc (θ #[ς A0 (XV a b M xs ys sd i (2*m)).length C0,ς A1 (XV a b M xs ys sd i (2*m+1)).length C1] 58)) w.heap.size ((Zm prog 3 (two (ς none 0 0) (ς none 0 0)) gm cnt f::Qw (2*N) v (XV a b M xs ys sd i))++[Qb 58 2 (ς (some ⟨w6.heap.size,0,none⟩) 1 1) 1 [v (2*m),v (2*m+1)]]):=by rw[e0,e1];exact UE.out.all.box (e:=58) (sz:=2) #[ς A0 (XV a b M xs ys sd i (2*m)).length C0,ς A1 (XV a b M xs ys sd i (2*m+1)).length C1] 1 (by unfold maxLen;omega) rfl
       have VL:=Qz w6 (θ #[ς A0 (XV a b M xs ys sd i (2*m)).length C0,ς A1 (XV a b M xs ys sd i (2*m+1)).length C1] 58);generalize w6.alloc (θ #[ς A0 (XV a b M xs ys sd i (2*m)).length C0,ς A1 (XV a b M xs ys sd i (2*m+1)).length C1] 58)=w7 at *;have lH:w.heap.size≤w6.heap.size:=UE.out.QF.size;have hB7:=QA (UE.out.QF.trans (VL.mono lH));generalize w6.heap.size=g13 at *;have Px:=QA UE.out.at_;have hlast:=gG;have hcell:w7.cell? ⟨g13,sd,none⟩=some (ς Aj lj Cj):=by
        have hl:((Zm prog 3 (two (ς none 0 0) (ς none 0 0)) gm cnt f::Qw (2*N) v (XV a b M xs ys sd i))++[Qb 58 2 (ς (some ⟨g13,0,none⟩) 1 1) 1 [v (2*m),v (2*m+1)]])[2*N+1]?=some (Qb 58 2 (ς (some ⟨g13,0,none⟩) 1 1) 1 [v (2*m),v (2*m+1)]):=by rw[GK (by rw[List.length_cons,Qe];exact QI _),List.length_cons,Qe,Nat.sub_self];rfl
        rw[←ej];have RY:sd=0∨sd=1:=ω
        rcases RY with rfl|rfl
        ·exact gG.cell hl (j:=0) rfl
        ·exact gG.cell hl (j:=1) rfl
       have hk:((Zm prog 3 (two (ς none 0 0) (ς none 0 0)) gm cnt f::Qw (2*N) v (XV a b M xs ys sd i))++[Qb 58 2 (ς (some ⟨g13,0,none⟩) 1 1) 1 [v (2*m),v (2*m+1)]])[2*m+sd+1]?=some (Qb 3 1 (ς Aj lj Cj) lj (iV (ints (XV a b M xs ys sd i (2*m+sd))))):=by rw[List.cons_append,GV,PX (by rw[Qe];omega),Vs _ _ (by omega:2*m+sd<2*N),ej,NW.out]
       have zq:=QA gG;have HK:=QA hk;obtain⟨i0,KZ,hz0,hz1,hz2⟩:=info_parts Zq;clear VL gG UE hlast e0 e1 q0 q1 ej YI hk;go_wp2_with (at_builtin;refine K7 (i:=2*m+sd+1) zq.out HK.out rfl _ _ rfl underlying32 KZ hz0 hz1 hz2 rfl δ rfl _ 1 ψ rfl rfl ω ?_);intro v' w8 Dq YJ;have hput:=Qrj (v':=v') (w8:=w8) (i:=i) Sw WS hlt (by omega:cnt≤100000) (by rw[NW.out];exact Dq) (hB7.out.trans YJ) Px.out;rw[NW.out]at hput;obtain⟨⟨u,hu⟩,hfz,⟨A',C',rfl⟩,A0',n0,C0',A1',n1,C1',z0,z1,UT,mr,f',Bl⟩:=hput;have ay:=QA Bl;clear Dq YJ Bl zq HK;go_wp2
       go_roundw
       case rel=>exact⟨i+1,cnt+1,f',upd v (2*m+sd) (ς A' (lj+1) C'),ω,by go_num,ω,by rw[Qw1 (m:=m) HPQ.out hlt (by rw[HX.out];exact TX.out) (by rw[HX.out];exact HM.out)];exact ay⟩
       case measure=>simp[intOf];omega
     ·obtain rfl:lr=i:=ω
      have Q3m:¬(lr:Int)<(lr:Int):=ω
      have az:Hid (Seen w wr N gm cnt f v (XV a b M xs ys (sd+1) 0)):=by rw[←Qub,←XP.out,jc.out];exact TS
      go_wp2
      go_roundw
      case rel=>exact⟨sd+1,cnt,f,v,ω,by go_num,ω,az⟩
      case measure=>simp[intOf];omega
  ·obtain rfl:sd=2:=ω
   have hlt':¬((2:Nat):Int)<2:=ω
   have NM:=QA (TS.out);clear TS SA hlt;obtain⟨p,hp⟩:∃p:List Nat,p=xs:=⟨_,rfl⟩;rw[show((2:Nat):Int)=2 from rfl]
   go_upto_region 16 with(fail)
   generalize wr=w2 at *;have EB:=QA (Ti.nil w2);go_wp2
   go_loopw [14,67] (fun UU s67 wq=>∃i:Nat,i≤lx∧s67=.int γ (i:Int)∧Hid (Ti w2 wq UU (toP (U8 a b M xs ys i)))) (fun _ s _=>lx-(intOf s).toNat)
   case atStart=>exact⟨0,ZR _,rfl,EB⟩
   case round =>
    clear EB;obtain⟨i,hi,rfl,HP⟩:=hrel;have hB:=NM.out.QF.trans (HP.out.QF.mono NM.out.QF.size);by_cases hil:i<lx
    ·have Q3m:(i:Int)<(lx:Int):=ω
     have Q2p:lx≤20000:=by rw[←NS.out];exact je.out
     have hi0:(0:Int)≤(i:Int):=ω
     obtain⟨gr,o,C,er,d1⟩:=LY.out.Au.at_ (i:=i) (by rw[NS.out];exact hil);injection er with e1 e2 e3;subst e1;subst e3;clear e2;obtain⟨x,hx⟩:=Mem.QD (xs.getD i 0);have HX:=QA hx;rw[hx]at d1;have SQ:x<a.n:=LY.out.hx x (by rw[←hx];exact QJ (by rw[NS.out];exact hil));have Tf:=(hB.cell (VJ _ _ d1)).trans d1;have Hk:Hid (Calls prog 49 #[π (some ⟨g,0,none⟩),.int γ 0,.int γ (x:Int)] wr fun e w'=>e=ρ (.bool (QQ M.1 x))∧∃q,w'=wr.drewN q):=LY.out.free wr x hB SQ;obtain⟨fr,XM⟩:=Mem.QD (QQ M.1 x);have TX:=QA XM;rw[XM]at Hk;have yZ:Hid (U8 a b M xs ys (i+1)=U8 a b M xs ys i++V2 a b M xs ys i):=Qcx a b M xs ys i;have hnl:(toP (U8 a b M xs ys i)).length≤20000:=by rw[Uk];exact QW (ir a b M xs ys i) (by have:=je.out;have:=NS.out;omega)
     obtain⟨i0,KZ,hz0,hz1,hz2⟩:=info_parts oh;clear hx XM d1 hB;go_wp2_with fail;refine Hk.out.mono ?_;rintro e w6 ⟨rfl,qd,GS⟩;have VH:Below wr.heap.size wr w6:=by rw[GS];exact⟨rfl,rfl,rfl,QI _,fun _ _=>rfl⟩
     have YC:=QA (HP.out.later VH);clear GS VH Tf Hk HP;have Ot:=NM.out.QF.trans (YC.out.QF.mono NM.out.QF.size);have GG:=QA Ot;cases fr with
     |false =>
      have hm:=JL.out.later Ot;obtain⟨CA2,cA⟩:=hm.cA;obtain⟨d2,_⟩:=X4 hm.mA (x:=x) (by rw[hm.lA];exact SQ);obtain⟨z,hz⟩:=Mem.QD (M.1.getD x 0);have HZ:=QA hz;rw[hz]at d2;have SP:(x:Int)<(a.n:Int):=ω
      have hx0:(0:Int)≤(x:Int):=ω
      have LN:=QA (Qzb (Im.out.later (fun k hk=>(JL.out.safe k hk).1) Ot) hys jd.out z);rw[Iy.out]at LN
      have wS:Hid (V2 a b M xs ys i=if(ys.any fun q=>((q:Nat):Int)==z)=true then[(i,ys.countP fun q=>decide (((q:Nat):Int)<z))]else[]):=by
       show _=_;unfold V2;rw[HX.out,TX.out,if_neg ψ,HZ.out];unfold find;by_cases hh:(ys.any fun q=>((q:Nat):Int)==z)=true
       ·rw[if_pos hh,if_pos hh]
       ·rw[if_neg hh,if_neg hh]
      obtain⟨ok,hok⟩:=Mem.QD ((ys.any fun q=>((q:Nat):Int)==z));obtain⟨j,hj⟩:=Mem.QD ((ys.countP fun q=>decide (((q:Nat):Int)<z)));rw[hok,hj]at LN wS;clear hm hz Ot hok hj;go_wp2_with fail;refine LN.out.mono ?_;rintro e w7 ⟨rfl,qe,M7⟩;have OQ:Hid (Ti w2 w7 _ _):=YC.out.later (by rw[M7];exact⟨rfl,rfl,rfl,QI _,fun _ _=>rfl⟩);clear M7 cA d2 LN;cases ok with
      |false =>
       go_wp2
       go_roundw
       case rel=>exact⟨i+1,ω,by go_num,by rw[yZ.out,wS.out,if_neg ψ,He];exact OQ⟩
       case measure=>simp[intOf];omega
      |true =>
       go_wp2_with (at_builtin;refine od (i:=0) OQ.out.all rfl rfl _ _ rfl underlying27 KZ hz0 hz1 hz2 rfl δ rfl _ 1 ψ rfl rfl rfl ω ?_);intro v' w8 Dq YJ;have aF:=QA (OQ.out.grow (p:=((i:Int),(j:Int))) Dq YJ);clear Dq YJ;go_wp2
       go_roundw
       case rel=>exact⟨i+1,ω,by go_num,by rw[yZ.out,wS.out,if_pos trivial];unfold toP;rw[List.map_append];exact aF⟩
       case measure=>simp[intOf];omega
     |true =>
      obtain⟨gM,oM,CM,gN,oN,CN,n1,n2,n3⟩:=LY.out.Nj;obtain⟨m,hm⟩:=Mem.QD (a.no x);have HM:=QA hm;have n3:=n3 x SQ;rw[hm]at n3;rw[Nat.add_zero]at n2;have Sw:m<N:=by rw[←hm];exact HNA.out x SQ
      have ni:=(Ot.cell (VJ _ _ n1)).trans n1;have ng:=(Ot.cell (VJ _ _ n2)).trans n2;have tZ:=(Ot.cell (VJ _ _ n3)).trans n3;have SP:(x:Int)<(a.n:Int):=ω
      have hx0:(0:Int)≤(x:Int):=ω
      have Fk:=NM.out.later YC.out.QF;have hlk:=Fk.look Sw WS;obtain⟨A0,C0,e0,q0,_⟩:=(Fk.row (j:=2*m) ω).slice;have Hy:=Fk.row (j:=2*m+1) ω;obtain⟨A1,C1,e1,q1,_⟩:=Hy.slice;rw[e0,e1]at hlk;rw[e1]at Hy;rw[(fp m).1,(fp m).2]at hlk;rw[(fp m).2]at Hy;obtain⟨l0,hl0⟩:=Mem.QD ((NJ a M.1 xs m).length);obtain⟨l1,Lg⟩:=Mem.QD ((NJ b M.2 ys m).length);have Bc:=QA Lg;have Hh:Hid (V2 a b M xs ys i=if l0=1∧l1=1 then[(i,(NJ b M.2 ys m).getD 0 0)]else[]):=by show _=_;unfold V2;rw[HX.out,TX.out,if_pos rfl,hm,hl0,Lg]
      rw[hl0,Lg]at hlk;rw[Lg]at Hy;have XQ:=QA Hy;clear hm n1 n2 n3 hl0 Lg Ot Fk Hy e0 e1 q0 q1
      go_upto_region 24 with(fail)
      have JF:=(QH.nil w6).box (e:=58) (sz:=2) #[ς A0 l0 C0,ς A1 l1 C1] 1 (by unfold maxLen;omega) rfl;have b0:=JF.cell (i:=0) rfl (j:=0) rfl;have b1:=JF.cell (i:=0) rfl (j:=1) rfl;have VL:=Qz w6 (θ #[ς A0 l0 C0,ς A1 l1 C1] 58);have OQ:=QA (YC.out.later VL);have BB:=QA (XQ.out.later (fun k hk=>hk.2) VL);generalize w6.alloc (θ #[ς A0 l0 C0,ς A1 l1 C1] 58)=w7 at *;generalize w6.heap.size=g19 at *;clear JF VL YC XQ hlk ni ng tZ SP hx0;by_cases hc0:l0=1
      ·subst hc0;by_cases hc1:l1=1
       ·subst hc1;obtain⟨gq,oq,Cq,eq,k1⟩:=BB.out.at_ (i:=0) (by rw[Bc.out];omega);rw[Bc.out]at eq;injection eq with qm ql qj;subst qm;subst qj;clear ql;rw[Nat.add_zero]at k1;obtain⟨y1,hy1⟩:=Mem.QD ((NJ b M.2 ys m).getD 0 0);rw[hy1]at k1 Hh;clear hy1;go_wp2_with (at_builtin;refine od (i:=0) OQ.out.all rfl rfl _ _ rfl underlying27 KZ hz0 hz1 hz2 rfl δ rfl _ 1 ψ rfl rfl rfl ω ?_);intro v' w8 Dq YJ;have aF:=QA (OQ.out.grow (p:=((i:Int),(y1:Int))) Dq YJ);clear Dq YJ;go_wp2
        go_roundw
        case rel=>exact⟨i+1,ω,by go_num,by rw[yZ.out,Hh.out,if_pos ⟨trivial,trivial⟩];unfold toP;rw[List.map_append];exact aF⟩
        case measure=>simp[intOf];omega
       ·have Nw:((l1:Int)==1)=false:=by rw[beq_eq_false_iff_ne];omega
        have qK:Hid (V2 a b M xs ys i=[]):=by show _=_;rw[Hh.out,if_neg (fun h=>hc1 h.2)]
        clear Hh;go_wp2
        go_roundw
        case rel=>exact⟨i+1,ω,by go_num,by rw[yZ.out,qK.out,He];exact OQ⟩
        case measure=>simp[intOf];omega
      ·have cO:((l0:Int)==1)=false:=by rw[beq_eq_false_iff_ne];omega
       have qK:Hid (V2 a b M xs ys i=[]):=by show _=_;rw[Hh.out,if_neg (fun h=>hc0 h.1)]
       clear Hh;go_wp2
       go_roundw
       case rel=>exact⟨i+1,ω,by go_num,by rw[yZ.out,qK.out,He];exact OQ⟩
       case measure=>simp[intOf];omega
    ·obtain rfl:lx=i:=ω
     have Q3m:¬(lx:Int)<(lx:Int):=ω
     have HSE:Hid (Kq a b M xs ys=U8 a b M xs ys lx):=by show _=_;unfold Kq U8;rw[NS.out]
     have ER:=QA hB;clear hB;go_wp2;go_ret;refine⟨ER.out,_,rfl,?_⟩;rw[HSE.out];exact HP.out.at_.more fun k hk=>⟨QW NM.out.QF.size hk.1,hk.2⟩
end Match
namespace Match
open Mem Tree Shape
variable {w:World}{S:Nat→Prop}{g gA gB:Nat}{a b:Sd}{M:St}
def b2(f h:Nat):List Value:=[ι γ (f:Int),ι γ (h:Int)]
structure KR(w wr:World)(S:Nat→Prop)(g gA gB g6 B:Nat)(a b:Sd)(M':St)(f h:Nat)(vl:Value)(L:List NP):Prop where
 ms:MS wr S g gA gB a b M'
 tn:QB gA gB w wr
 bx:ZY wr g6 40 (b2 f h)
 pl:Qm wr (In B wr.heap.size) vl (toP L)
section
variable {wr w':World}{g6 B f h:Nat}{M' DK:St}{vl:Value}{L:List NP}
theorem KR.turn(k:KR w wr S g gA gB g6 B a b M' f h vl L)(ht:QB gA gB wr w')(hm:MS w' S g gA gB a b DK)(hA:gA<B)(hB:gB<B)(h6:g6≠gA∧g6≠gB):KR w w' S g gA gB g6 B a b DK f h vl L :=
 ⟨hm,k.tn.trans ht,(ht.block g6 k.bx.lt h6.1 h6.2).trans k.bx,(k.pl.keep fun j hj=>ht.block j hj.2 (by have:=hj.1;omega) (by have:=hj.1;omega)).more fun j hj=>⟨hj.1,Nat.lt_of_lt_of_le hj.2 ht.size⟩⟩
theorem KR.later(k:KR w wr S g gA gB g6 B a b M' f h vl L)(hb:Below wr.heap.size wr w'):KR w w' S g gA gB g6 B a b M' f h vl L :=
 ⟨k.ms.later hb,k.tn.trans (QB.of_below hb),k.bx.keep hb,(k.pl.keep fun j hj=>hb.block j hj.2).more fun j hj=>⟨hj.1,Nat.lt_of_lt_of_le hj.2 hb.size⟩⟩
theorem KR.put(k:KR w wr S g gA gB g6 B a b M' f h vl L)(f' h':Nat)(h6:w.heap.size≤g6)(hB:g6<B)(hS:∀j,S j→j<w.heap.size)(hA:gA<w.heap.size)(hB':gB<w.heap.size) :
 KR w ((wr.setCell ⟨g6,0,none⟩ (ι γ (f':Int))).setCell ⟨g6,1,none⟩ (ι γ (h':Int))) S g gA gB g6 B a b M' f' h' vl L:=by
 have hb:∀j,j≠g6→((wr.setCell ⟨g6,0,none⟩ (ι γ (f':Int))).setCell ⟨g6,1,none⟩ (ι γ (h':Int))).heap[j]? = wr.heap[j]? := fun j hj=>by
  rw[Below.heap_setCell _ _ _ _ (show j≠g6 from hj),Below.heap_setCell _ _ _ _ (show j≠g6 from hj)]
 have hsz:((wr.setCell ⟨g6,0,none⟩ (ι γ (f':Int))).setCell ⟨g6,1,none⟩ (ι γ (h':Int))).heap.size=wr.heap.size:=ψ
 have ht:QB gA gB w ((wr.setCell ⟨g6,0,none⟩ (ι γ (f':Int))).setCell ⟨g6,1,none⟩ (ι γ (h':Int))) :=
  ⟨k.tn.os,k.tn.tape,k.tn.output,by rw[hsz];exact k.tn.size,fun j h1 h2 h3=>by rw[hb j ω];exact k.tn.block j h1 h2 h3⟩
 refine⟨⟨k.ms.ro.keep fun j hj=>hb j (by have:=hS j hj;omega),?_,?_,?_,?_,k.ms.lA,k.ms.lB,k.ms.ne,fun j hj=>by rw[hsz];exact k.ms.safe j hj⟩,ht,?_,?_⟩
 ·obtain⟨C,hc⟩:=k.ms.cA;exact c119
 ·obtain⟨C,hc⟩:=k.ms.cB;exact c119
 ·rw[hb gA ω];exact k.ms.mA
 ·rw[hb gB ω];exact k.ms.mB
 ·have h1:=k.bx.set (i:=0) (by simp[b2]) (ι γ (f':Int));exact h1.set (i:=1) (by simp[b2]) (ι γ (h':Int))
 ·refine(k.pl.keep fun j hj=>hb j (by have:=hj.1;omega)).more fun j hj=>⟨hj.1,by rw[hsz];exact hj.2⟩
end
end Match
namespace Match
open Mem Tree Shape
variable {w:World}{S:Nat→Prop}{g gA gB:Nat}{a b:Sd}{M:St}
theorem Qi6(a b:Sd)(xs ys:List Nat)(M:St)(f h:Nat)(p:NP)(r:List NP):X8 a b xs ys M f h (p::r)=X8 a b xs ys (QK a b (YV a b M ((xs.take p.1).drop f) ((ys.take p.2).drop h)) (xs.getD p.1 0) (ys.getD p.2 0)) (p.1+1) (p.2+1) r:=rfl
theorem Qpm{L:List NP}{i:Nat}(h:i<L.length):L.drop i=L.getD i (0,0)::L.drop (i+1):=by
 rw[List.drop_eq_getElem_cons h,QX,QN h];rfl
theorem Qe1(l:List NP)(bf:List Nat):∀(k e:Nat)(out:List NP),(Yo l bf k e out).length=k+out.length
 |0,_,out=>by unfold Yo;omega
 |k+1,e,out=>by rw[Yo,Qe1 l bf k,List.length_cons];omega
theorem Qiy{l:List NP}(hd:∀p q,p<q→q<l.length→sn l p≠sn l q):(Vo l).length≤l.length:=by
 have:=(pL hd l.length (Nat.le_refl _)).le;unfold Vo;rw[Qe1,List.length_nil];exact this
theorem Qs1(h:MS w S g gA gB a b M)(hf:Fit a b)(xs ys:List Nat)(vx vy:Value)(hi:Inv a b M)(hr:Rows a b M xs ys)(hx:∀x∈xs,x<a.n)(hy:∀y∈ys,y<b.n)(rx:Qu w S vx xs)(ry:Qu w S vy ys)(hp:xs.length≤20000)(hq:ys.length≤20000)(hys:(ints ys).Pairwise (·≤·)) :
 Calls Tryz.prog 45 #[π (some ⟨g,0,none⟩),vx,vy] w (Js S g gA gB a b w (Ec a b M xs ys)):=by
 have HF:=QA hf;obtain⟨My,Tc⟩:∃R,Ec a b M xs ys=R:=⟨_,rfl⟩;obtain⟨L,hL⟩:=Mem.QD (Vo (Kq a b M xs ys));obtain⟨q1,q2⟩:=Qdz (iu hi hr) (iy hi hr);have vU:Hid (vA L):=by rw[←hL];exact q1
 have jf:Hid (∀p∈L,p.1<xs.length∧p.2<ys.length):=fun p hp=>by
  have:=rB hi hr (q2 p (by rw[hL];exact hp));exact⟨this.1,this.2.1⟩
 have uP:Hid (My=X8 a b xs ys M 0 0 L):=by show _=_;rw[←Tc,←hL];rfl
 have hd:∀p q,p<q→q<(Kq a b M xs ys).length→sn (Kq a b M xs ys) p≠sn (Kq a b M xs ys) q:=by intro p q h1 h2;have:=List.pairwise_iff_getElem.1 (iy hi hr) p q ω h2 h1;unfold sn;rw[QX,QX,QN h2,QN (by omega:p<(Kq a b M xs ys).length)];exact this
 have hsl:(Kq a b M xs ys).length≤20000:=Nat.le_trans (ir a b M xs ys xs.length) hp;have Pp:=QA hd;have HSL:=QA hsl;have hb1:=Qz w (θ #[ι γ 0,ι γ 0] 40);have uz:=QA (h.later hb1);have ek:Hid (ZY (w.alloc (θ #[ι γ 0,ι γ 0] 40)) w.heap.size 40 (b2 0 0)):=heap_alloc_new w _;have rT:=QA (Qqy (h.later hb1) hf xs ys vx vy hx hy (rx.later (fun k hk=>(h.safe k hk).1) hb1) (ry.later (fun k hk=>(h.safe k hk).1) hb1) hp hq hys);have yT:=QA (QB.of_below (gA:=gA) (gB:=gB) hb1);have ax:Hid ((w.alloc (θ #[ι γ 0,ι γ 0] 40)).heap.size=w.heap.size+1):=by show _=_;simp
 have HS:=QA h.safe;have Hj:Hid (gA<w.heap.size∧gB<w.heap.size):=⟨(Array.getElem?_eq_some_iff.1 h.mA).1,(Array.getElem?_eq_some_iff.1 h.mB).1⟩;have qL:=QA rx;have Im:=QA ry;have HX:=QA hx;have HY:=QA hy;have HP:=QA hp;have HQ:=QA hq;obtain⟨Ax,Cx,rfl,cx1,cx2⟩:=rx.slice;obtain⟨Ay,Cy,rfl,cy1,cy2⟩:=ry.slice;obtain⟨lx,hlx⟩:=Mem.QD (xs.length);obtain⟨ly,SY⟩:=Mem.QD (ys.length);have NS:=QA hlx;have Iy:=QA SY;rw[hlx]at qL rT cx1⊢;rw[SY]at Im rT cy1⊢;rw[Tc];have Rc:=QA hL;clear h hf hi hr hx hy rx ry hp hq hys q1 q2 hd hsl hb1 Tc hL hlx SY;go_enter Tryz.func45,Tryz.ntmps45
 go_upto_region 1 with(fail)
 generalize w.alloc (θ #[ι γ 0,ι γ 0] 40)=w1 at *;go_wp2_with fail;refine rT.out.mono ?_;rintro e w2 ⟨hb2,v,rfl,hpv⟩;obtain⟨As,Cs,hv⟩:=hpv.slice;subst hv;have J':=QA (Qiz (Kq a b M xs ys) As _ Cs w2 (hpv.more fun k hk=>hk.2) (Uk _).symm (by rw[Uk];exact HSL.out) Pp.out);have uy:=QA (uz.out.later hb2);have ed:=QA (ek.out.keep hb2);have yS:=QA (yT.out.trans (QB.of_below hb2));have Il:Hid (w.heap.size+1≤w2.heap.size):=by show _≤_;rw[←ax.out];exact hb2.size
 rw[Rc.out]at J';clear hb2 hpv rT uz ek yT;go_wp2_with fail;refine J'.out.mono ?_;rintro e w3 ⟨hb3,v,rfl,hpl⟩;obtain⟨AL,CL,hv⟩:=hpl.slice;subst hv;obtain⟨nl,hnl⟩:=Mem.QD (L.length);rw[Uk,hnl]at hpl⊢;have TU:=QA hnl;have EP:Hid (KR w w3 S g gA gB w.heap.size (w.heap.size+1) a b M 0 0 (ς AL nl CL) L):=⟨uy.out.later hb3,yS.out.trans (QB.of_below hb3),ed.out.keep hb3,hpl.more fun k hk=>⟨Nat.le_trans Il.out hk.1,hk.2⟩⟩;have Q2h:nl≤20000:=by rw[←hnl,←Rc.out];exact Nat.le_trans (Qiy Pp.out) HSL.out
 clear hb3 hpl J' uy ed yS Il hnl;go_wp2
 go_loopw [16] (fun ED wr=>∃(i:Nat)(M':St)(f h':Nat),i≤nl∧f≤lx∧h'≤ly∧ED=ι γ (i:Int)∧Hid (KR w wr S g gA gB w.heap.size (w.heap.size+1) a b M' f h' (ς AL nl CL) L)∧Hid (My=X8 a b xs ys M' f h' (L.drop i))∧Hid (∀p∈L.drop i,f≤p.1∧h'≤p.2)) (fun s _=>nl-(intOf s).toNat)
 case atStart=>exact⟨0,M,0,0,ZR _,ZR _,ZR _,rfl,EP,uP,(show ∀p∈L.drop 0,0≤p.1∧0≤p.2 from fun p _=>⟨ZR _,ZR _⟩)⟩
 case round =>
  clear EP uP;obtain⟨i,M',f,h',hi,zX,hfy,rfl,HK,IB,wR⟩:=hrel;by_cases hlt:i<nl
  ·have hlt':(i:Int)<(nl:Int):=ω
   have hi0:(0:Int)≤(i:Int):=ω
   have hil:i<L.length:=by rw[TU.out];exact hlt
   obtain⟨bp,op,rfl,_,d2,d3⟩:=HK.out.pl.at_ (yC hil);have xD:=Qpm hil;obtain⟨p,hpe⟩:=Mem.QD (L.getD i (0,0));rw[hpe]at xD d2 d3;obtain⟨p1,p2⟩:=p;have hmem:(p1,p2)∈L:=by rw[←hpe,QX,QN hil];exact List.getElem_mem hil
   obtain⟨m1,m2⟩:=jf.out _ hmem;obtain⟨o1,o2⟩:=wR.out (p1,p2) (by rw[xD];exact List.mem_cons_self ..);simp only at d2 d3 m1 m2 o1 o2;have zn:Hid (My=X8 a b xs ys (QK a b (YV a b M' ((xs.take p1).drop f) ((ys.take p2).drop h')) (xs.getD p1 0) (ys.getD p2 0)) (p1+1) (p2+1) (L.drop (i+1))):=by show _=_;rw[IB.out,xD,Qi6]
   have wQ:Hid (∀p∈L.drop (i+1),p1+1≤p.1∧p2+1≤p.2):=by
    have h1:(L.drop i).Pairwise fun p q=>p.1<q.1∧p.2<q.2:=vU.out.drop
    rw[xD]at h1;exact(List.pairwise_cons.1 h1).1
   rw[NS.out]at m1;rw[Iy.out]at m2;clear xD hpe hmem hil IB wR
   go_upto_region 4 with(fail)
   have VL:=Qz wr (θ #[ι γ (p1:Int),ι γ (p2:Int)] 40);have sF:=QA (HK.out.later VL);have Hm:Hid (ZY (wr.alloc (θ #[ι γ (p1:Int),ι γ (p2:Int)] 40)) wr.heap.size 40 (b2 p1 p2)):=heap_alloc_new wr _;have hg8:w.heap.size≤wr.heap.size:=HK.out.tn.size;have Q23:w.heap.size≠wr.heap.size:=by have:=HK.out.bx.lt;omega
   generalize wr.alloc (θ #[ι γ (p1:Int),ι γ (p2:Int)] 40)=w7 at *;generalize wr.heap.size=g8 at *;clear HK d2 d3 VL;have z0:=sF.out.bx.at_ (i:=0) rfl;have z1:=sF.out.bx.at_ (i:=1) rfl;have y0:=Hm.out.at_ (i:=0) rfl;have y1:=Hm.out.at_ (i:=1) rfl;have Rk:=sF.out.later (Q8 w7);obtain⟨v1,hs1,hr1⟩:=(qL.out.turn HS.out Rk.tn).sub o1 (by rw[NS.out];omega:p1≤xs.length);obtain⟨v2,hs2,hr2⟩:=(Im.out.turn HS.out Rk.tn).sub o2 (by rw[Iy.out];omega:p2≤ys.length);have qM:=QA (G5 Rk.ms HF.out _ _ v1 v2 (fun x hx=>HX.out x (List.mem_of_mem_take (List.mem_of_mem_drop hx))) (fun y hy=>HY.out y (List.mem_of_mem_take (List.mem_of_mem_drop hy))) hr1 hr2 (by rw[List.length_drop,JS];have:=HP.out;omega) (by rw[List.length_drop,JS];have:=HQ.out;omega));have Re:=QA Rk;have f0:(0:Int)≤(f:Int):=ω
   have f1:(f:Int)≤(p1:Int):=ω
   have f2:(p1:Int)≤(Cx:Int):=ω
   have e0:(0:Int)≤(h':Int):=ω
   have e1:(h':Int)≤(p2:Int):=ω
   have e2:(p2:Int)≤(Cy:Int):=ω
   clear hr1 hr2 Rk
   go_still_tail 13,χ
   change wpList _ _ _ _ _ w7.drew;have zC:Hid (ZY w7.drew g8 40 (b2 p1 p2)):=Hm.out;generalize w7.drew=wd at *;clear z0 z1 y0 y1 sF Hm;go_wp2_with fail;refine qM.out.mono ?_;rintro e w9 ⟨rfl,La,JC⟩;have Ol:gA<w.heap.size+1∧gB<w.heap.size+1:=by have:=Hj.out;omega
   have h6:w.heap.size≠gA∧w.heap.size≠gB:=by have:=Hj.out;omega
   have h8:g8≠gA∧g8≠gB:=by have:=Hj.out;omega
   have OX:=QA (Re.out.turn La JC Ol.1 Ol.2 h6);have ER:Hid (ZY w9 g8 40 (b2 p1 p2)):=(La.block g8 zC.out.lt h8.1 h8.2).trans zC.out;clear La JC qM Re zC hs1 hs2
   go_upto_region 5 with(fail)
   have y0:=ER.out.at_ (i:=0) rfl;have y1:=ER.out.at_ (i:=1) rfl;have Rk:=OX.out.later (Q8 w9);obtain⟨gx,ox,Cx',ex,kx⟩:=(qL.out.turn HS.out OX.out.tn).at_ (i:=p1) (by rw[NS.out];exact m1);rw[NS.out]at ex;injection ex with ex1 DD DC;subst ex1;subst DC;clear DD;obtain⟨gy,oy,Cy',ey,ky⟩:=(Im.out.turn HS.out OX.out.tn).at_ (i:=p2) (by rw[Iy.out];exact m2);rw[Iy.out]at ey;injection ey with ey1 DB DA;subst ey1;subst DA;clear DB;have EO:=QA (J9 Rk.ms HF.out (xs.getD p1 0) (ys.getD p2 0) (HX.out _ (QJ (by rw[NS.out];exact m1))) (HY.out _ (QJ (by rw[Iy.out];exact m2))));have Re:=QA Rk;have zB:Hid (ZY w9.drew g8 40 (b2 p1 p2)):=ER.out;obtain⟨x,hx⟩:=Mem.QD (xs.getD p1 0);obtain⟨y,hy⟩:=Mem.QD (ys.getD p2 0);rw[hx]at kx EO zn;rw[hy]at ky EO zn;have x0:(0:Int)≤(p1:Int):=ω
   have x1:(p1:Int)<(lx:Int):=ω
   have w0:(0:Int)≤(p2:Int):=ω
   have w1':(p2:Int)<(ly:Int):=ω
   clear hx hy Rk
   go_still_tail 11,χ
   change wpList _ _ _ _ _ w9.drew;generalize w9.drew=wd2 at *;clear y0 y1 OX ER kx ky;go_wp2_with fail;refine EO.out.mono ?_;rintro e UT ⟨rfl,Nr,CU⟩;have Ma:=QA (Re.out.turn Nr CU Ol.1 Ol.2 h6);have Sr:Hid (ZY UT g8 40 (b2 p1 p2)):=(Nr.block g8 zB.out.lt h8.1 h8.2).trans zB.out;clear Nr CU EO Re zB;have y0:=Sr.out.at_ (i:=0) rfl;have y1:=Sr.out.at_ (i:=1) rfl;have z0:=Ma.out.bx.at_ (i:=0) rfl;have z1:=Ma.out.bx.at_ (i:=1) rfl;have z2:=Ma.out.bx.free 0;have z3:=Ma.out.bx.free 1;have Rs:=QA (Ma.out.put (p1+1) (p2+1) (Nat.le_refl _) ω (fun j hj=>(HS.out j hj).1) Hj.out.1 Hj.out.2);have Lg:lx≤20000:=by rw[←NS.out];exact HP.out
   have hl2:ly≤20000:=by rw[←Iy.out];exact HQ.out
   clear Ma Sr;go_wp2
   go_roundw
   case rel=>exact⟨i+1,_,p1+1,p2+1,ω,ω,ω,by go_num,Rs,zn,wQ⟩
   case measure=>simp[intOf];omega
  ·obtain rfl:nl=i:=ω
   have hlt':¬(nl:Int)<(nl:Int):=ω
   have HGE:Hid (My=YV a b M' (xs.drop f) (ys.drop h')):=by show _=_;rw[IB.out,List.drop_of_length_le (by rw[TU.out];exact Nat.le_refl _)];rfl
   clear hlt IB wR
   go_upto_region 8 with(fail)
   have z0:=HK.out.bx.at_ (i:=0) rfl;have z1:=HK.out.bx.at_ (i:=1) rfl;have Rk:=HK.out.later (Q8 wr);obtain⟨v1,hs1,hr1⟩:=(qL.out.turn HS.out Rk.tn).from (by rw[NS.out];exact zX:f≤xs.length);obtain⟨v2,hs2,hr2⟩:=(Im.out.turn HS.out Rk.tn).from (by rw[Iy.out];exact hfy:h'≤ys.length);have qM:=QA (G5 Rk.ms HF.out _ _ v1 v2 (fun x hx=>HX.out x (List.mem_of_mem_drop hx)) (fun y hy=>HY.out y (List.mem_of_mem_drop hy)) hr1 hr2 (by rw[List.length_drop];have:=HP.out;omega) (by rw[List.length_drop];have:=HQ.out;omega));have Re:=QA Rk;have f0:(0:Int)≤(f:Int):=ω
   have f1:(f:Int)≤(lx:Int):=ω
   have e0:(0:Int)≤(h':Int):=ω
   have e1:(h':Int)≤(ly:Int):=ω
   clear hr1 hr2 Rk
   go_still_tail 9,χ
   change wpList _ _ _ _ _ wr.drew;generalize wr.drew=wd at *;clear z0 z1 HK;go_wp2_with fail;refine qM.out.mono ?_;rintro e w9 ⟨rfl,La,JC⟩;go_wp2
   go_end0
   exact⟨rfl,Re.out.tn.trans La,by rw[HGE.out];exact JC⟩
end Match
namespace Match
open Mem Tree Shape
theorem Ō{n:Nat}:∀(l:List Nat)(k:Nat),l.Pairwise (·<·)→(∀x∈l,k≤x∧x<n)→l.length+k≤n∨l=[]
 |[],_,_,_=>.inr rfl
 |x::r,k,h,hb=>by
  left
  have h1:=List.pairwise_cons.1 h;have hx:=hb x (List.mem_cons_self ..);rcases Ō r (x+1) h1.2 (fun y hy=>⟨h1.1 y hy,(hb y (List.mem_cons_of_mem _ hy)).2⟩)with h2|rfl
  ·rw[List.length_cons];omega
  ·simp only[List.length_cons,List.length_nil];omega
theorem ĸ(s:Sd)(x:Nat):(s.kid x).Pairwise (·<·):=fE (Sd.JT s x)
theorem Z1{s:Sd}{x:Nat}:∀q∈s.kid x,q<s.n:=fun q hq=>(Sd.VS (Sd.KE hq) hq).2.2
theorem Uw(s:Sd)(x:Nat):(s.kid x).length≤s.n:=by
 rcases Ō (s.kid x) 0 (ĸ s x) (fun q hq=>⟨Nat.zero_le _,Z1 q hq⟩)with h|h
 ·omega
 ·rw[h];exact Nat.zero_le _
theorem Qyr(s:Sd)(x:Nat):(ints (s.kid x)).Pairwise (·≤·):=by
 unfold ints;rw[List.pairwise_map];exact(ĸ s x).imp fun h=>ω
variable {w:World}{S:Nat→Prop}{g gA gB:Nat}{a b:Sd}{M:St}
theorem Qpt(h:MS w S g gA gB a b M)(hf:Fit a b)(hi:Inv a b M) :
 Calls Tryz.prog 30 #[π (some ⟨g,0,none⟩)] w (Js S g gA gB a b w (ZJ a b a.n M 0)):=by
 have HF:=Lib.hid hf;obtain⟨My,Tc⟩:∃R,ZJ a b a.n M 0=R:=⟨_,rfl⟩;obtain⟨CA,cA⟩:=h.cA;have RL:=hf.na;obtain⟨n,hn⟩:=Mem.QD (a.n);have HN:=Lib.hid hn;rw[hn]at cA RL;have EP:Hid (MS w S g gA gB a b M∧QB gA gB w w∧Inv a b M):=⟨h,QB.refl gA gB w,hi⟩;have P':Hid (My=ZJ a b (n-0) M 0):=by show _=_;rw[←Tc,hn];rfl
 rw[Tc];clear h hf hi hn Tc;go_enter Tryz.func30,Tryz.ntmps30;go_wp2;clear cA
 go_loopw [10] (fun JQ wr=>∃(i:Nat)(M':St),i≤n∧JQ=ι γ (i:Int)∧Hid (MS wr S g gA gB a b M'∧QB gA gB w wr∧Inv a b M')∧Hid (My=ZJ a b (n-i) M' i)) (fun s _=>n-(intOf s).toNat)
 case atStart=>exact⟨0,M,Nat.zero_le _,rfl,EP,P'⟩
 case round =>
  clear EP P';obtain⟨i,M',hi,rfl,HK,HR⟩:=hrel;by_cases hlt:i<n
  ·have hlt':(i:Int)<(n:Int):=ω
   have hi0:(0:Int)≤(i:Int):=ω
   obtain⟨C1,c1⟩:=HK.out.1.cA;rw[HN.out]at c1;obtain⟨d1,_⟩:=X4 HK.out.1.mA (x:=i) (by rw[HK.out.1.lA,HN.out];exact hlt);have HS:Hid (My=ZJ a b (n-(i+1)) (if 0≤M'.1.getD i 0∧JU a b i (M'.1.getD i 0).toNat=false then Ec a b M' (a.kid i) (b.kid (M'.1.getD i 0).toNat)else M') (i+1)):=by show _=_;rw[HR.out,show n-i=(n-(i+1))+1 by omega,ZJ]
   clear HR;by_cases hz0:0≤M'.1.getD i 0
   ·have XM:QQ M'.1 i=false:=by unfold QQ;rw[decide_eq_false_iff_not];omega
    obtain⟨y,hy⟩:=HK.out.2.2.part.Rw (by rw[HN.out];exact hlt) XM;have he:M'.1.getD i 0=((y:Nat):Int):=by rw[List.getD_eq_getElem?_getD,hy];rfl
    have hy2:=(HK.out.2.2.part.two _ _).1 hy;have Fh:y<b.n:=by rw[←HK.out.1.lB];exact(List.getElem?_eq_some_iff.1 hy2).1
    have qM:Hid (Rows a b M' (a.kid i) (b.kid y)):=⟨i,y,List.Sublist.refl _,List.Sublist.refl _,XM,hy2.free⟩;rw[he]at d1;rw[he,Int.toNat_natCast]at HS;have hy0:(0:Int)≤(y:Int):=ω
    have IL:=Lib.hid (U4 HK.out.1 HF.out i y (by rw[HN.out];exact hlt) Fh);obtain⟨r,hr⟩:=Mem.QD (JU a b i y);rw[hr]at IL HS;clear hr XM hy he hy2 hz0;go_wp2_with fail;refine IL.out.mono ?_;rintro e w6 ⟨rfl,qd,GS⟩;have LJ:Hid (MS w6 S g gA gB a b M'∧QB gA gB w w6∧Inv a b M'):=by rw[GS];exact⟨HK.out.1.drewN qd,HK.out.2.1.trans (QB.drewN wr qd),HK.out.2.2⟩
    clear GS HK IL c1 d1;cases r with
    |true =>
     have Hi:Hid (My=ZJ a b (n-(i+1)) M' (i+1)):=by show _=_;rw[HS.out,if_neg (fun h=>by cases h.2)]
     clear HS;go_wp2
     go_roundw
     case rel=>exact⟨i+1,M',ω,by go_num,LJ,Hi⟩
     case measure=>simp[intOf];omega
    |false =>
     have Hi:Hid (My=ZJ a b (n-(i+1)) (Ec a b M' (a.kid i) (b.kid y)) (i+1)):=by show _=_;rw[HS.out,if_pos ⟨hy0,rfl⟩]
     obtain⟨gK,oK,CK,Ax,Cx,k0,k1,k2,k3,k4⟩:=LJ.out.1.ro.pa.kids (x:=i) (by rw[HN.out];exact hlt);obtain⟨gL,oL,CL,Ay,Cy,l0,l1,l2,l3,l4⟩:=LJ.out.1.ro.pb.kids (x:=y) Fh;have Md:w6.cell? ⟨g,3,none⟩=some (ς (some ⟨gK,oK,none⟩) a.n CK):=k0;have MZ:w6.cell? ⟨g,7,none⟩=some (ς (some ⟨gL,oL,none⟩) b.n CL):=l0;rw[HN.out]at Md;have ke:(y:Int)<(b.n:Int):=ω
     have Rk:=LJ.out.1.later (Q8 w6);have OW:=Lib.hid (Qs1 Rk HF.out (a.kid i) (b.kid y) (ς Ax (a.kid i).length Cx) (ς Ay (b.kid y).length Cy) LJ.out.2.2 qM.out Z1 Z1 ⟨Ax,Cx,rfl,k2,k3,k4⟩ ⟨Ay,Cy,rfl,l2,l3,l4⟩ (by have:=Uw a i;have:=HN.out;omega) (by have:=Uw b y;have:=HF.out.nb;omega) (Qyr b y));have DS:Hid (QB gA gB w w6.drew):=LJ.out.2.1.trans (QB.of_below (Q8 w6));have uW:Hid (Inv a b (Ec a b M' (a.kid i) (b.kid y))):=(Ĺ HF.out.nums LJ.out.2.2 qM.out).inv;clear k0 l0 k2 k3 k4 l2 l3 l4 Rk HS
     go_upto_region 5 with(fail)
     go_still_tail 19,χ
     change wpList _ _ _ _ _ w6.drew;generalize w6.drew=wd at *;clear Md MZ k1 l1 LJ;go_wp2_with fail;refine OW.out.mono ?_;rintro e w9 ⟨rfl,La,JC⟩;have OX:Hid (MS w9 S g gA gB a b (Ec a b M' (a.kid i) (b.kid y))∧QB gA gB w w9∧Inv a b (Ec a b M' (a.kid i) (b.kid y))):=⟨JC,DS.out.trans La,uW.out⟩;clear La JC OW DS uW;go_wp2
     go_roundw
     case rel=>exact⟨i+1,_,ω,by go_num,OX,Hi⟩
     case measure=>simp[intOf];omega
   ·have hz1:¬(0:Int)≤M'.1.getD i 0:=hz0;have Hi:Hid (My=ZJ a b (n-(i+1)) M' (i+1)):=by show _=_;rw[HS.out,if_neg (fun h=>hz0 h.1)]
    clear HS hz0;generalize M'.1.getD i 0=z at *;have hz2:decide ((0:Int)≤z)=false:=decide_eq_false hz1;go_wp2
    go_roundw
    case rel=>exact⟨i+1,M',ω,by go_num,HK,Hi⟩
    case measure=>simp[intOf];omega
  ·obtain rfl:n=i:=ω
   have hlt':¬(n:Int)<(n:Int):=ω
   have HE:Hid (My=M'):=by show _=_;rw[HR.out,Nat.sub_self];rfl
   clear hlt HR;go_wp2
   go_end0
   exact⟨rfl,HK.out.2.1,by rw[HE.out];exact HK.out.1⟩
