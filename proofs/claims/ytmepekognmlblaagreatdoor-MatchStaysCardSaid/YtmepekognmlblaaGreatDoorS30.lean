import Derived.Test.YtmepekognmlblaaGreatDoorS29
import Derived.Maps.OwnSet
import Derived.Maps.Views
set_option maxHeartbeats 16000000
set_option maxRecDepth 100000
set_option linter.unusedVariables false
open Go.ChangeShapes Go.WideShapes Go.ChangeAt Go.RowKit Go.Proofs.Tryz
open Go.Lib renaming hid→QA
open _root_.Nat renaming le_refl→QI,zero_le→ZR,le_trans→QW
open _root_.List renaming getElem?_eq_getElem→QN,getD_eq_getElem?_getD→QX,length_map→VD
open Go.World renaming block_lt_of_cell?→VJ
open Go.Value renaming int→ι,slice→ς,pointer→π,bool→τ
open Go.IntKind renaming i64→γ
open Go.Obj renaming cells→θ
open Go.Ending renaming returned→ρ
namespace Go.Proofs.YtmepekognmlblaaGreatDoor
namespace Match
open Mem Tree Shape
theorem od{P:Program}{T E:TypeId}{i0:TypeInfo}{z:Value}{Hd:Nat}{ops:Array Oper}{rest:List Oper}{o:Oper}{a:Act}{Q:Exit→Act→World→Prop}{W:World}{B:Nat}{R:List QC}{i n:Nat}{v u0 u1:Value}{xs:List Value}(h:QH W B R)(hi:R[i]?=some (Qb E 2 v n xs))(hgd:o.guard=none)(s x:Operand)
 (ho:o.op=.call { callee:=.builtin .append,args:=#[s,x],argTypes:=#[T,T] }) (hT:P.underlying T=some (.slice E)) (hi0:P.info? E=some i0) (hz0:i0.zero=some z) (hz1:i0.size=2) (hz2:i0.bytes=Hd) (Np:z.cells.size=2) (hby:Hd≤1000)
 (hs:a.eval s=v) (g c:Nat) (hg:g=W.heap.size) (hx:a.eval x=ς (some ⟨g,0,none⟩) 1 c) (h0:u0.oneCell'=true) (h1:u1.oneCell'=true) (hn:n≤10000000)
 (k:∀v' w',QH w' B (R.set i (Qb E 2 v' (n+1) (xs++[u0,u1])))→Below B W w'→wpList P ops Q rest (a.put o.dst v') w'):wpList P ops Q (o::rest) a (W.alloc (θ #[u0,u1] E)):=by
 subst hg;have hb:=Qz W (θ #[u0,u1] E);obtain⟨v',w',hr,hf,hb',_,_⟩:=(h.later hb).VT (P:=P) (T:=T) (g:=W.heap.size) (c:=c) (cs:=[u0,u1]) hi o.type hT hi0 hz0 hz1 hz2 Np δ hby rfl (Vk W [u0,u1] E) (fun q hq=>by simp only[List.mem_cons,List.not_mem_nil,or_false]at hq;rcases hq with rfl|rfl <;> assumption) hn;exact Y8 hgd s x ho hs hx hr (k v' w' hf ((hb.mono h.B).trans hb'))
structure Ti(w W:World)(v:Value)(L:List P2):Prop where
 all:QH W w.heap.size [Qb 40 2 v L.length (L.flatMap Fb)]
 QF:Below w.heap.size w W
section
variable {w W:World}{v:Value}{L:List P2}
theorem Ti.nil(w:World):Ti w w (ς none 0 0) []:=⟨(QH.nil w).VQ (e:=40) (sz:=2),Below.refl _ _⟩
theorem Ti.later{W':World}(h:Ti w W v L)(hb:Below W.heap.size W W'):Ti w W' v L:=⟨h.all.later hb,h.QF.trans (hb.mono h.QF.size)⟩
theorem Ti.at_(h:Ti w W v L):Qm W (In w.heap.size W.heap.size) v L:=by
 obtain⟨A,C,rfl,q1,q2⟩:=h.all.slice (i:=0) rfl;refine⟨A,C,rfl,q1,q2,?_⟩;by_cases h0:L.length=0
 ·left
  rw[List.length_eq_zero_iff]at h0;subst h0;rfl
 ·obtain⟨gR,C',e,_,_⟩:=h.all.sliceAt (i:=0) rfl ω;injection e with e1 e2 e3;subst e1;subst e3;have hlt:=h.all.lt (t:=Qb 40 2 (ς (some ⟨gR,0,none⟩) L.length C) L.length (L.flatMap Fb)) ψ (k:=gR) rfl;refine .inr ⟨gR,0,rfl,hlt,fun i u hu=>?_⟩;rw[Nat.zero_add];exact h.all.cell (i:=0) rfl hu
theorem Ti.grow{w1:World}{v':Value}{p:P2}(h:Ti w W v L)(hf:QH w1 w.heap.size (([Qb 40 2 v L.length (L.flatMap Fb)]:List QC).set 0 (Qb 40 2 v' (L.length+1) (L.flatMap Fb++[ι γ p.1,ι γ p.2]))))(hb:Below w.heap.size W w1):Ti w w1 v' (L++[p]):=by
 refine⟨?_,h.QF.trans hb⟩;rw[List.flatMap_append,List.length_append];exact hf
end
variable {w:World}{S:Nat→Prop}{g gA gB:Nat}{a b:Sd}{M:St}
def G8(M:List Int)(n:Nat):List P2:=(List.range n).flatMap fun x=>if 0≤M.getD x 0 then[((x:Int),M.getD x 0)]else[]
theorem Qbw(M:List Int)(n:Nat):G8 M (n+1)=G8 M n++(if 0≤M.getD n 0 then[((n:Int),M.getD n 0)]else[]):=by
 unfold G8;rw[List.range_succ,List.flatMap_append,List.flatMap_singleton]
theorem Qdj(M:List Int):∀n,(G8 M n).length≤n
 |0=>Nat.le_refl _
 |n+1=>by
  have:=Qdj M n;rw[Qbw,List.length_append];split
  ·rw[List.length_singleton];omega
  ·rw[List.length_nil];omega
theorem Qom(h:MS w S g gA gB a b M)(hf:Fit a b):Calls Tryz.prog 32 #[π (some ⟨g,0,none⟩)] w fun e w'=>Below w.heap.size w w'∧∃v,e = ρ v∧Qm w' (In w.heap.size w'.heap.size) v (Ki M.1):=by
 have JL:=Lib.hid h;have uJ:Hid (M.1.length=a.n):=h.lA;obtain⟨CA,cA⟩:=h.cA;have RL:=hf.na;obtain⟨n,hn⟩:=Mem.QD (a.n);have HN:=Lib.hid hn;rw[hn]at cA RL;have HE:Hid (Ki M.1=G8 M.1 n):=by show _=_;unfold Ki G8;rw[uJ.out,HN.out]
 have EB:=Lib.hid (Ti.nil w);clear h hf hn;go_enter Tryz.func32,Tryz.ntmps32;go_wp2;clear cA
 go_loopw [3,12] (fun s3 YU wr=>∃i:Nat,i≤n∧YU=ι γ (i:Int)∧Hid (Ti w wr s3 (G8 M.1 i))) (fun _ s _=>n-(intOf s).toNat)
 case atStart=>exact⟨0,Nat.zero_le _,rfl,EB⟩
 case round =>
  clear EB;obtain⟨i,hi,rfl,HP⟩:=hrel;by_cases hlt:i<n
  ·have hlt':(i:Int)<(n:Int):=ω
   have KZ:(0:Int)≤(i:Int):=ω
   have hm:=JL.out.later HP.out.QF;obtain⟨CA2,cA⟩:=hm.cA;rw[HN.out]at cA;obtain⟨d1,_⟩:=X4 hm.mA (x:=i) (by rw[uJ.out,HN.out];exact hlt);have HS:Hid (G8 M.1 (i+1)=G8 M.1 i++(if 0≤M.1.getD i 0 then[((i:Int),M.1.getD i 0)]else[])):=Qbw M.1 i;have hlen:=Qdj M.1 i;generalize M.1.getD i 0=y at *;clear hm;by_cases hy:0≤y
   ·obtain⟨i0,hi0,hz0,hz1,hz2⟩:=info_parts oh;go_wp2_with (at_builtin;refine od (i:=0) HP.out.all rfl rfl _ _ rfl Tryz.underlying27 hi0 hz0 hz1 hz2 rfl δ rfl _ 1 ψ rfl rfl rfl ω ?_);intro v' w' hf hb;have aG:=Lib.hid (HP.out.grow (p:=((i:Int),y)) hf hb);clear hf hb;go_wp2
    go_roundw
    case rel=>exact⟨i+1,ω,by go_num,by rw[HS.out,if_pos hy];exact aG⟩
    case measure=>simp[intOf];omega
   ·have hy':¬(0:Int)≤y:=hy;go_wp2
    go_roundw
    case rel=>exact⟨i+1,ω,by go_num,by rw[HS.out,if_neg hy,List.append_nil];exact HP⟩
    case measure=>simp[intOf];omega
  ·obtain rfl:n=i:=ω
   have hlt':¬(n:Int)<(n:Int):=ω
   clear hlt;go_wp2;go_ret;exact⟨HP.out.QF,_,rfl,by rw[HE.out];exact HP.out.at_⟩
end Match
namespace Match
open Mem Tree Shape
namespace Sd
theorem EF{s:Sd}(h:s.Ok):s.par.getD 0 0 = -1:=by
 obtain⟨k,x,y,c,e⟩:=h;unfold par;rw[e];rfl
theorem EE{s:Sd}{z:Nat}(h:s.Ok)(h0:0<z)(hz:z<s.n):∃q,q<z∧s.par.getD z 0=((q:Nat):Int):=by
 obtain⟨q,h1,h2⟩:=Qx6 h h0 hz;exact⟨q,h1,by rw[QX,fu h2];rfl⟩
end Sd
theorem Qdm(M:List Int):∀(l:List Int)(acc:List Nat),(X6 M acc l).length=acc.length+l.length
 |[],acc=>rfl
 |p::r,acc=>by rw[X6,Qdm M r,List.length_append,List.length_singleton,List.length_cons];omega
theorem Qbx(M:List Int)(p:Int):∀(l:List Int)(acc:List Nat),X6 M acc (l++[p])=X6 M acc l++[if(X6 M acc l).length=0∨QQ M p.toNat=false then p.toNat else(X6 M acc l).getD p.toNat 0]
 |[],acc=>rfl
 |q::r,acc=>by rw[List.cons_append,X6,Qbx M p r];rfl
def Zv(s:Sd)(M:List Int)(i:Nat):List Nat:=X6 M [] (s.par.take i)
theorem Zz{s:Sd}{M:List Int}{i:Nat}(h:i≤s.n):(Zv s M i).length=i:=by
 unfold Zv;rw[Qdm,List.length_take,Sd.YF,List.length_nil];omega
theorem Jf(s:Sd)(M:List Int):Zv s M s.n=Q3 s M:=by
 unfold Zv Q3;rw[←Sd.YF s,List.take_length]
theorem G9{s:Sd}{M:List Int}{i:Nat}(h:i<s.n):Zv s M (i+1)=Zv s M i++[if i=0∨QQ M (s.par.getD i 0).toNat=false then(s.par.getD i 0).toNat else(Zv s M i).getD (s.par.getD i 0).toNat 0]:=by
 have e:s.par.take (i+1)=s.par.take i++[s.par.getD i 0]:=by
  have hl:i<s.par.length:=by rw[Sd.YF];exact h
  rw[List.take_add_one,QN hl,QX,QN hl];rfl
 have hL:=Zz (M:=M) (Nat.le_of_lt h);unfold Zv at hL⊢;rw[e,Qbx,hL]
def Lv(s:Sd)(M:List Int)(n i:Nat):List Value:=iV (ints (Zv s M i)++List.replicate (n-i) 0)
theorem Xy{s:Sd}{M:List Int}{n i:Nat}(hn:s.n=n)(h:i≤n):(Lv s M n i).length=n:=by
 unfold Lv ints;rw[Xh,List.length_append,VD,Zz ω,List.length_replicate];omega
theorem Ü{s:Sd}{M:List Int}{n i q:Nat}(hn:s.n=n)(h:i≤n)(hq:q<i):(Lv s M n i)[q]?=some (ι γ (((Zv s M i).getD q 0:Nat):Int)):=by
 have hl:=Zz (s:=s) (M:=M) (i:=i) ω;refine bJ ?_;unfold ints;rw[List.getElem?_append_left (by rw[VD];omega),List.getElem?_map,QX,QN ω];rfl
theorem rp{s:Sd}{M:List Int}{n i v:Nat}(hn:s.n=n)(h:i<n)(hv:Zv s M (i+1)=Zv s M i++[v]):(Lv s M n i).set i (ι γ ((v:Nat):Int))=Lv s M n (i+1):=by
 have hl:=Zz (s:=s) (M:=M) (i:=i) ω;unfold Lv;rw[hv];rw[bT]
 congr 1
 have e:n-i=(n-(i+1))+1:=ω
 unfold ints;rw[e,List.replicate_succ,List.map_append,List.set_append_right _ _ (by rw[VD];omega),VD,hl,Nat.sub_self,List.set_cons_zero,List.append_assoc];rfl
theorem Ý{s:Sd}{M:List Int}{n:Nat}(hn:s.n=n):Lv s M n n=iV (ints (Q3 s M)):=by
 unfold Lv;rw[Nat.sub_self,List.replicate_zero,List.append_nil,←hn,Jf]
theorem p8(z:Int)(h:0≤z)(W:World):(Builtin.max_ #[3,3] 3 #[ι γ z,ι γ 0]).run Tryz.prog W=.ok (ι γ z) W:=by
 rw[run_max_int2,if_neg ω]
theorem p9(W:World):(Builtin.max_ #[3,3] 3 #[ι γ (-1),ι γ 0]).run Tryz.prog W=.ok (ι γ 0) W:=by
 rw[run_max_int2,if_pos ω]
variable {w:World}{S:Nat→Prop}{g gA gB:Nat}{a b:Sd}{M:St}
def Xo(w:World)(L:List Nat)(e:Ending)(w':World):Prop:=Below w.heap.size w w'∧∃v,e=ρ v∧Qu w' (In w.heap.size w'.heap.size) v L
theorem ı{wr:World}{n:Nat}{L:List Nat}(hb:Below w.heap.size w wr)(hk:ZY wr w.heap.size 3 (iV (ints L)))(hl:L.length=n)(hn:n≤20000):Xo w L (ρ (ς (some ⟨w.heap.size,0,none⟩) n n)) wr:=by
 refine⟨hb,_,rfl,_,_,by rw[hl],by rw[hl];exact QI _,by unfold maxLen;omega,.inr ⟨_,0,rfl,⟨QI _,hk.lt⟩,fun i u hu=>?_⟩⟩;rw[Nat.zero_add];exact hk.at_ hu
theorem Qor(h:MS w S g gA gB a b M)(hf:Fit a b):Calls Tryz.prog 46 #[π (some ⟨g,0,none⟩),ι γ 0] w (Xo w (Q3 a M.1)):=by
 have JL:=QA h;have RL:=hf.na;have MD:Hid (a.Ok):=hf.nums.EG;obtain⟨C1,c1⟩:=h.cA;obtain⟨gP,oP,CP,c2,_⟩:=h.ro.pa.parent (MD.out.pos);obtain⟨n,hn⟩:=Mem.QD (a.n);have HN:=QA hn;have uk:Hid (0<n):=by show _<_;rw[←hn];exact MD.out.pos
 rw[hn]at c1 c2 RL;have Lj:w.cell? ⟨g,1,none⟩=some (ς (some ⟨gP,oP,none⟩) n CP):=c2;have GX:Hid (∀(wr:World)(x:Nat),Below w.heap.size w wr→x<n→wr.cell? ⟨gP,oP+x,none⟩=some (ι γ (a.par.getD x 0))):=by intro wr x hb hx;obtain⟨gP',oP',CP',e1,e2⟩:=h.ro.pa.parent (x:=x) (by rw[hn];exact hx);have NA:w.cell? ⟨g,1,none⟩=_:=e1;rw[Lj]at NA;injection NA with NA;injection NA with q1 q2 q3;injection q1 with q1;injection q1 with q1 q4;subst q1;subst q4;exact(hb.cell (VJ _ _ e2)).trans e2
 have mk:=Jg n ω w;have EP:Hid (ZY (w.alloc (θ (iV (List.replicate n 0)).toArray 3)) w.heap.size 3 (Lv a M.1 n 0)):=by have:ZY (w.alloc (θ (iV (List.replicate n 0)).toArray 3)) w.heap.size 3 (iV (List.replicate n 0)):=heap_alloc_new w _;exact this
 have Pw:=QA (Qz w (θ (iV (List.replicate n 0)).toArray 3));have bo:=(Pw.out.cell (VJ _ _ Lj)).trans Lj;have NR:Hid (Xo w (Q3 a M.1)=Xo w (Q3 a M.1)):=rfl;clear h hf hn c2;go_enter Tryz.func46,Tryz.ntmps46;generalize w.alloc (θ (iV (List.replicate n 0)).toArray 3)=w1 at *;go_wp2;clear c1 Lj bo mk
 go_loopw [24] (fun Ap wr=>∃i:Nat,i≤n∧Ap=ι γ (i:Int)∧Hid (ZY wr w.heap.size 3 (Lv a M.1 n i))∧Hid (Below w.heap.size w wr)) (fun s _=>n-(intOf s).toNat)
 case atStart=>exact⟨0,ZR _,rfl,EP,Pw⟩
 case round =>
  clear EP Pw;obtain⟨i,hi,rfl,HK,HB⟩:=hrel;by_cases hlt:i<n
  ·have hlt':(i:Int)<(n:Int):=ω
   have KZ:(0:Int)≤(i:Int):=ω
   have d1:=GX.out wr i HB.out hlt;have HS:Hid (Zv a M.1 (i+1)=_):=G9 (s:=a) (M:=M.1) (i:=i) (by rw[HN.out];exact hlt);obtain⟨vo,Cw⟩:∃v,(Lv a M.1 n i)[i]?=some v:=⟨_,QN (by rw[Xy HN.out hi];exact hlt)⟩;have Nv:=HK.out.at_ Cw;have Mj:=HK.out.free i;clear Cw;by_cases hi0:i=0
   ·subst hi0;have e0:=Sd.EF MD.out;rw[e0,Nat.add_zero]at d1;have Hi:Hid (Zv a M.1 (0+1)=Zv a M.1 0++[0]):=by show _=_;rw[HS.out,e0,if_pos (Or.inl rfl)];rfl
    have HG:Hid (ZY (wr.setCell ⟨w.heap.size,0,none⟩ (ι γ 0)) w.heap.size 3 (Lv a M.1 n (0+1))):=by have h1:=HK.out.set (i:=0) (by rw[Xy HN.out hi];exact hlt) (ι γ ((0:Nat):Int));rw[rp HN.out hlt Hi.out]at h1;exact h1
    have Rv:Hid (Below w.heap.size w (wr.setCell ⟨w.heap.size,0,none⟩ (ι γ 0))):=Zn HB.out (QI _) _ _;have mx:=p9 wr;clear e0 HS;go_wp2
    go_roundw
    case rel=>exact⟨0+1,ω,by go_num,HG,Rv⟩
    case measure=>simp[intOf];omega
   ·obtain⟨q,hq,e0⟩:=Sd.EE MD.out (by omega:0<i) (by rw[HN.out];exact hlt);rw[e0]at d1;have hne:((i:Int)==0)=false:=by rw[beq_eq_false_iff_ne];omega
    have HF:=QA (Gv (JL.out.later HB.out) q (by rw[HN.out];omega));have hq0:(0:Int)≤(q:Int):=ω
    have Ob:(q:Int)<(n:Int):=ω
    obtain⟨v,hv⟩:∃v,(if i=0∨QQ M.1 (a.par.getD i 0).toNat=false then(a.par.getD i 0).toNat else(Zv a M.1 i).getD (a.par.getD i 0).toNat 0)=v:=⟨_,rfl⟩;have HV:=QA hv;have Hi:Hid (Zv a M.1 (i+1)=Zv a M.1 i++[v]):=by show _=_;rw[HS.out,hv]
    rw[e0,Int.toNat_natCast]at hv;have hv2:v=if QQ M.1 q=false then q else(Zv a M.1 i).getD q 0:=by
     rw[←hv];by_cases EK:QQ M.1 q=false
     ·rw[if_pos (Or.inr EK),if_pos EK]
     ·rw[if_neg (by rintro(h|h);exact hi0 h;exact EK h),if_neg EK]
    have hx0:q<n:=ω
    obtain⟨ov,hov⟩:=Mem.QD ((Zv a M.1 i).getD q 0);rw[hov]at hv2;have vY:=QA hov;clear hov Nv Mj;generalize QQ M.1 q=fq at *;clear hv HV HS e0;go_wp2_with fail;refine HF.out.mono ?_;rintro e w6 ⟨rfl,qd,GS⟩;have LJ:Hid (ZY w6 w.heap.size 3 (Lv a M.1 n i)):=by rw[GS];exact HK.out
    have GG:Hid (Below w.heap.size w w6):=by rw[GS];exact HB.out.trans ⟨rfl,rfl,rfl,QI _,fun _ _=>rfl⟩
    clear GS d1;have dq:=LJ.out.at_ (Ü (s:=a) (M:=M.1) HN.out hi hq);rw[vY.out]at dq;obtain⟨vo,Cw⟩:∃v,(Lv a M.1 n i)[i]?=some v:=⟨_,QN (by rw[Xy HN.out hi];exact hlt)⟩;have Nv:=LJ.out.at_ Cw;have Mj:=LJ.out.free i;have HG:Hid (ZY (w6.setCell ⟨w.heap.size,i,none⟩ (ι γ ((v:Nat):Int))) w.heap.size 3 (Lv a M.1 n (i+1))):=by have h1:=LJ.out.set (i:=i) (by rw[Xy HN.out hi];exact hlt) (ι γ ((v:Nat):Int));rw[rp HN.out hlt Hi.out]at h1;exact h1
    have Rv:Hid (Below w.heap.size w (w6.setCell ⟨w.heap.size,i,none⟩ (ι γ ((v:Nat):Int)))):=Zn GG.out (QI _) _ _;have mx:=p8 (q:Int) hq0 w6;clear Cw HF;cases fq with
    |false =>
     obtain rfl:v=q:=by rw[hv2,if_pos rfl]
     clear hv2;go_wp2
     go_roundw
     case rel=>exact c135
     case measure=>simp[intOf];omega
    |true =>
     obtain rfl:v=ov:=by rw[hv2,if_neg ψ]
     clear hv2;go_wp2
     go_roundw
     case rel=>exact c135
     case measure=>simp[intOf];omega
  ·obtain rfl:n=i:=ω
   have hlt':¬(n:Int)<(n:Int):=ω
   exact c167
theorem Qoq(h:MS w S g gA gB a b M)(hf:Fit a b):Calls Tryz.prog 46 #[π (some ⟨g,0,none⟩),ι γ 1] w (Xo w (Q3 b M.2)):=by
 have JL:=QA h;have RL:=hf.nb;have MD:Hid (b.Ok):=hf.nums.Hq;obtain⟨C1,c1⟩:=h.cB;obtain⟨gP,oP,CP,c2,_⟩:=h.ro.pb.parent (MD.out.pos);obtain⟨n,hn⟩:=Mem.QD (b.n);have HN:=QA hn;have uk:Hid (0<n):=by show _<_;rw[←hn];exact MD.out.pos
 rw[hn]at c1 c2 RL;have Lj:w.cell? ⟨g,5,none⟩=some (ς (some ⟨gP,oP,none⟩) n CP):=c2;have GX:Hid (∀(wr:World)(x:Nat),Below w.heap.size w wr→x<n→wr.cell? ⟨gP,oP+x,none⟩=some (ι γ (b.par.getD x 0))):=by intro wr x hb hx;obtain⟨gP',oP',CP',e1,e2⟩:=h.ro.pb.parent (x:=x) (by rw[hn];exact hx);have NA:w.cell? ⟨g,5,none⟩=_:=e1;rw[Lj]at NA;injection NA with NA;injection NA with q1 q2 q3;injection q1 with q1;injection q1 with q1 q4;subst q1;subst q4;exact(hb.cell (VJ _ _ e2)).trans e2
 have mk:=Jg n ω w;have EP:Hid (ZY (w.alloc (θ (iV (List.replicate n 0)).toArray 3)) w.heap.size 3 (Lv b M.2 n 0)):=by have:ZY (w.alloc (θ (iV (List.replicate n 0)).toArray 3)) w.heap.size 3 (iV (List.replicate n 0)):=heap_alloc_new w _;exact this
 have Pw:=QA (Qz w (θ (iV (List.replicate n 0)).toArray 3));have bo:=(Pw.out.cell (VJ _ _ Lj)).trans Lj;have NR:Hid (Xo w (Q3 b M.2)=Xo w (Q3 b M.2)):=rfl;clear h hf hn c2;go_enter Tryz.func46,Tryz.ntmps46;generalize w.alloc (θ (iV (List.replicate n 0)).toArray 3)=w1 at *;go_wp2;clear c1 Lj bo mk
 go_loopw [24] (fun Ap wr=>∃i:Nat,i≤n∧Ap=ι γ (i:Int)∧Hid (ZY wr w.heap.size 3 (Lv b M.2 n i))∧Hid (Below w.heap.size w wr)) (fun s _=>n-(intOf s).toNat)
 case atStart=>exact⟨0,ZR _,rfl,EP,Pw⟩
 case round =>
  clear EP Pw;obtain⟨i,hi,rfl,HK,HB⟩:=hrel;by_cases hlt:i<n
  ·have hlt':(i:Int)<(n:Int):=ω
   have KZ:(0:Int)≤(i:Int):=ω
   have d1:=GX.out wr i HB.out hlt;have HS:Hid (Zv b M.2 (i+1)=_):=G9 (s:=b) (M:=M.2) (i:=i) (by rw[HN.out];exact hlt);obtain⟨vo,Cw⟩:∃v,(Lv b M.2 n i)[i]?=some v:=⟨_,QN (by rw[Xy HN.out hi];exact hlt)⟩;have Nv:=HK.out.at_ Cw;have Mj:=HK.out.free i;clear Cw;by_cases hi0:i=0
   ·subst hi0;have e0:=Sd.EF MD.out;rw[e0,Nat.add_zero]at d1;have Hi:Hid (Zv b M.2 (0+1)=Zv b M.2 0++[0]):=by show _=_;rw[HS.out,e0,if_pos (Or.inl rfl)];rfl
    have HG:Hid (ZY (wr.setCell ⟨w.heap.size,0,none⟩ (ι γ 0)) w.heap.size 3 (Lv b M.2 n (0+1))):=by have h1:=HK.out.set (i:=0) (by rw[Xy HN.out hi];exact hlt) (ι γ ((0:Nat):Int));rw[rp HN.out hlt Hi.out]at h1;exact h1
    have Rv:Hid (Below w.heap.size w (wr.setCell ⟨w.heap.size,0,none⟩ (ι γ 0))):=Zn HB.out (QI _) _ _;have mx:=p9 wr;clear e0 HS;go_wp2
    go_roundw
    case rel=>exact⟨0+1,ω,by go_num,HG,Rv⟩
    case measure=>simp[intOf];omega
   ·obtain⟨q,hq,e0⟩:=Sd.EE MD.out (by omega:0<i) (by rw[HN.out];exact hlt);rw[e0]at d1;have hne:((i:Int)==0)=false:=by rw[beq_eq_false_iff_ne];omega
    have HF:=QA (Gu (JL.out.later HB.out) q (by rw[HN.out];omega));have hq0:(0:Int)≤(q:Int):=ω
    have Ob:(q:Int)<(n:Int):=ω
    obtain⟨v,hv⟩:∃v,(if i=0∨QQ M.2 (b.par.getD i 0).toNat=false then(b.par.getD i 0).toNat else(Zv b M.2 i).getD (b.par.getD i 0).toNat 0)=v:=⟨_,rfl⟩;have HV:=QA hv;have Hi:Hid (Zv b M.2 (i+1)=Zv b M.2 i++[v]):=by show _=_;rw[HS.out,hv]
    rw[e0,Int.toNat_natCast]at hv;have hv2:v=if QQ M.2 q=false then q else(Zv b M.2 i).getD q 0:=by
     rw[←hv];by_cases EK:QQ M.2 q=false
     ·rw[if_pos (Or.inr EK),if_pos EK]
     ·rw[if_neg (by rintro(h|h);exact hi0 h;exact EK h),if_neg EK]
    have hx0:q<n:=ω
    obtain⟨ov,hov⟩:=Mem.QD ((Zv b M.2 i).getD q 0);rw[hov]at hv2;have vY:=QA hov;clear hov Nv Mj;generalize QQ M.2 q=fq at *;clear hv HV HS e0;go_wp2_with fail;refine HF.out.mono ?_;rintro e w6 ⟨rfl,qd,GS⟩;have LJ:Hid (ZY w6 w.heap.size 3 (Lv b M.2 n i)):=by rw[GS];exact HK.out
    have GG:Hid (Below w.heap.size w w6):=by rw[GS];exact HB.out.trans ⟨rfl,rfl,rfl,QI _,fun _ _=>rfl⟩
    clear GS d1;have dq:=LJ.out.at_ (Ü (s:=b) (M:=M.2) HN.out hi hq);rw[vY.out]at dq;obtain⟨vo,Cw⟩:∃v,(Lv b M.2 n i)[i]?=some v:=⟨_,QN (by rw[Xy HN.out hi];exact hlt)⟩;have Nv:=LJ.out.at_ Cw;have Mj:=LJ.out.free i;have HG:Hid (ZY (w6.setCell ⟨w.heap.size,i,none⟩ (ι γ ((v:Nat):Int))) w.heap.size 3 (Lv b M.2 n (i+1))):=by have h1:=LJ.out.set (i:=i) (by rw[Xy HN.out hi];exact hlt) (ι γ ((v:Nat):Int));rw[rp HN.out hlt Hi.out]at h1;exact h1
    have Rv:Hid (Below w.heap.size w (w6.setCell ⟨w.heap.size,i,none⟩ (ι γ ((v:Nat):Int)))):=Zn GG.out (QI _) _ _;have mx:=p8 (q:Int) hq0 w6;clear Cw HF;cases fq with
    |false =>
     obtain rfl:v=q:=by rw[hv2,if_pos rfl]
     clear hv2;go_wp2
     go_roundw
     case rel=>exact c135
     case measure=>simp[intOf];omega
    |true =>
     obtain rfl:v=ov:=by rw[hv2,if_neg ψ]
     clear hv2;go_wp2
     go_roundw
     case rel=>exact c135
     case measure=>simp[intOf];omega
  ·obtain rfl:n=i:=ω
   have hlt':¬(n:Int)<(n:Int):=ω
   exact c167
end Match
namespace Match
open Mem Tree Shape
def bH:Value→Option (DataW Value×List MemPlace):=fun v=>some (.held v,[])
noncomputable def KN (f:Lit→Value) (kl:Lit) (val:Value):Lit→Value:=fun kl'=>@ite _ (kl'=kl) (Classical.propDecidable _) val (f kl')
theorem Gb(f:Lit→Value)(kl:Lit)(val:Value):KN f kl val kl=val:=by unfold KN;rw[if_pos rfl]
theorem E0(f:Lit→Value){kl kl':Lit}(val:Value)(h:kl'≠kl):KN f kl val kl'=f kl':=by unfold KN;rw[if_neg h]
def Vj(w:World)(P:Program)(k:TypeId)(z:Value)(b n:Nat)(f:Lit→Value):Prop:=∃D,w.ownsMap P k bH b n D∧∀kl,D.atKey kl (.held z)=.held (f kl)
section
variable {w w':World}{P:Program}{k:TypeId}{z:Value}{b n:Nat}{f:Lit→Value}
theorem Vj.made(w:World)(P:Program)(k:TypeId)(z:Value):Vj (w.alloc (.map #[] 0)) P k z w.heap.size 0 (fun _=>z) :=
 ⟨_,World.ownsMap_made w P k bH,fun kl=>rfl⟩
theorem Vj.lt(h:Vj w P k z b n f):b<w.heap.size:=by
 obtain⟨D,h1,_⟩:=h;exact h1.lt
theorem Vj.kept{row:Option Nat}(h:Vj w P k z b n f)(hg:w.grownBy w' row)(hne:some b≠row):Vj w' P k z b n f:=by
 obtain⟨D,h1,h2⟩:=h;exact⟨D,h1.kept hg hne,h2⟩
theorem Vj.look{t e:TypeId}(h:Vj w P k z b n f)(K:Maps.Keyed P k)(ht:P.underlying t=some (.map k e))(hz:(zeroValue e).run P w=.ok z w){key:Value}{kl:Lit}(hkey:Go.keyOf P k key=some kl) :
 (Instr.lookup t (.map (some b)) key false).run P w=.ok (f kl) w:=by
 obtain⟨D,h1,h2⟩:=h;obtain⟨v,ps,hr,hv⟩:=h1.lookup K ht hz (zd:=.held z) (zp:=[]) rfl hkey;rw[h2 kl]at hv;injection hv with hv;injection hv with hv _;injection hv with hv;rw[hr,hv]
theorem Vj.put{t e:TypeId}(h:Vj w P k z b n f)(K:Maps.Keyed P k)(ht:P.underlying t=some (.map k e))(hn:n<maxLen){key val:Value}{kl:Lit}(hkey:Go.keyOf P k key=some kl) :
 ∃w',(Instr.mapUpdate t (.map (some b)) key val).run P w=.ok () w'∧Vj w' P k z b (n+1) (KN f kl val)∧w.grownBy w' (some b):=by
 obtain⟨D,h1,h2⟩:=h;obtain⟨w',hr,h3,h4⟩:=h1.update K ht hn hkey (val:=val) rfl;refine⟨w',hr,⟨_,h3,fun kl'=>?_⟩,h4⟩;by_cases e1:kl'=kl
 ·subst e1;rw[Gb,Maps.atKey_put_same h1.isMap (K.key hkey)]
 ·rw[E0 f val e1,Maps.atKey_put_other e1,h2]
end
def Zm(P:Program)(k:TypeId)(z:Value)(b n:Nat)(f:Lit→Value):QC :=
 ⟨some b,fun w=>Vj w P k z b n f,fun w j h hj=>(by injection hj with hj;subst hj;exact h.lt),fun w w' row h hg hne=>h.kept hg (by rcases hne with h|h;cases h;exact h)⟩
section
variable {w:World}{P:Program}{k t e:TypeId}{z:Value}{b n B i:Nat}{f:Lit→Value}{R:List QC}
theorem Ğ(h:QH w B R)(hi:R[i]?=some (Zm P k z b n f))(K:Maps.Keyed P k)(ht:P.underlying t=some (.map k e))(hz:(zeroValue e).run P w=.ok z w){key:Value}{kl:Lit}(hkey:Go.keyOf P k key=some kl) :
 (Instr.lookup t (.map (some b)) key false).run P w=.ok (f kl) w :=
 Vj.look (show Vj w P k z b n f from h.get hi) K ht hz hkey
theorem fM(h:QH w B R)(hi:R[i]?=some (Zm P k z b n f))(K:Maps.Keyed P k)(ht:P.underlying t=some (.map k e))(hn:n<maxLen){key val:Value}{kl:Lit}(hkey:Go.keyOf P k key=some kl) :
 ∃w',(Instr.mapUpdate t (.map (some b)) key val).run P w=.ok () w'∧QH w' B (R.set i (Zm P k z b (n+1) (KN f kl val)))∧Below B w w'∧w.grownBy w' (some b):=by
 obtain⟨w',hr,h1,h2⟩:=Vj.put (show Vj w P k z b n f from h.get hi) K ht hn hkey (val:=val);exact⟨w',hr,h.set hi h2 h1 (.inl rfl),h.QF hi h2,h2⟩
theorem pX(h:QH w B R)(P:Program)(k:TypeId)(z:Value):QH (w.alloc (.map #[] 0)) B (R++[Zm P k z w.heap.size 0 (fun _=>z)]) :=
 h.snoc (World.grownBy_alloc w _ none) (Vj.made w P k z) fun j hj=>by
  have hj:some w.heap.size=some j:=hj;injection hj with hj;omega
end
def upd{α:Type}(f:Nat→α)(j:Nat)(x:α):Nat→α:=fun i=>if i=j then x else f i
theorem Zo{α:Type}(f:Nat→α)(j:Nat)(x:α):upd f j x j=x:=by unfold upd;rw[if_pos rfl]
theorem V1{α:Type}(f:Nat→α){i j:Nat}(x:α)(h:i≠j):upd f j x i=f i:=by unfold upd;rw[if_neg h]
def Qw(n:Nat)(v:Nat→Value)(L:Nat→List Nat):List QC:=(List.range n).map fun j=>Qb 3 1 (v j) (L j).length (iV (ints (L j)))
theorem Qe(n:Nat)(v:Nat→Value)(L:Nat→List Nat):(Qw n v L).length=n:=by simp[Qw]
theorem Vs{n j:Nat}(v:Nat→Value)(L:Nat→List Nat)(h:j<n):(Qw n v L)[j]?=some (Qb 3 1 (v j) (L j).length (iV (ints (L j)))):=by
 unfold Qw;rw[List.getElem?_map,List.getElem?_range h];rfl
theorem ow{n j:Nat}(v:Nat→Value)(L:Nat→List Nat)(v':Value)(l':List Nat):(Qw n v L).set j (Qb 3 1 v' l'.length (iV (ints l')))=Qw n (upd v j v') (upd L j l'):=by
 apply List.ext_getElem?;intro i;rw[List.getElem?_set];by_cases hi:i<n
 ·rw[Vs (upd v j v') (upd L j l') hi,Qe];by_cases e:j=i
  ·subst e;rw[if_pos rfl,if_pos hi,Zo,Zo]
  ·rw[if_neg e,Vs v L hi,V1 v v' (fun h=>e h.symm),V1 L l' (fun h=>e h.symm)]
 ·rw[List.getElem?_eq_none (by rw[Qe];omega:(Qw n (upd v j v') (upd L j l')).length≤i)];split
  ·rw[if_neg (by rw[Qe];omega)]
  ·rw[List.getElem?_eq_none (by rw[Qe];omega)]
theorem Ud{w:World}{B:Nat}{R:List QC}(h:QH w B R):∀n,QH w B (R++Qw n (fun _ => ς none 0 0) (fun _=>[]))
 |0=>by unfold Qw;simp only[List.range_zero,List.map_nil,List.append_nil];exact h
 |n+1=>by
  have:=(Ud h n).VQ (e:=3) (sz:=1);unfold Qw at this⊢;rw[List.range_succ,List.map_append,←List.append_assoc];exact this
def two(x y:Value):Value:=.agg #[x,y]
theorem iD(W:World):(zeroValue 58).run prog W=.ok (two (ς none 0 0) (ς none 0 0)) W:=χ
def Yq(m:Nat):Lit:=.int γ ((m:Nat):Int)
theorem ö{m m':Nat}(h:m≠m'):Yq m≠Yq m':=by
 unfold Yq;intro e;injection e with _ e;exact h ω
theorem ft{m:Nat}(h:m<4611686018427387904):Go.keyOf prog 3 (.int γ (m:Int))=some (Yq m) :=
 Maps.keyOf_int_mk underlying3 (by have e1:IntKind.i64.min = -9223372036854775808:=rfl;have e2:IntKind.i64.max=9223372036854775807:=rfl;simp[Lit.wf,e1,e2];omega)
structure Seen(w W:World)(N gm cnt:Nat)(f:Lit→Value)(v:Nat→Value)(L:Nat→List Nat):Prop where
 all:QH W w.heap.size (Zm prog 3 (two (ς none 0 0) (ς none 0 0)) gm cnt f::Qw (2*N) v L)
 at_:∀m,m<N→f (Yq m)=two (v (2*m)) (v (2*m+1))
 QF:Below w.heap.size w W
section
variable {w W:World}{N gm cnt:Nat}{f:Lit→Value}{v:Nat→Value}{L:Nat→List Nat}
theorem Seen.start(w:World)(N:Nat):Seen w (w.alloc (.map #[] 0)) N w.heap.size 0 (fun _=>two (ς none 0 0) (ς none 0 0)) (fun _ => ς none 0 0) (fun _=>[]) :=
 ⟨Ud (pX (QH.nil w) prog 3 (two (ς none 0 0) (ς none 0 0))) (2*N),fun _ _=>rfl,Qz w _⟩
theorem Seen.later{W':World}(h:Seen w W N gm cnt f v L)(hb:Below W.heap.size W W'):Seen w W' N gm cnt f v L:=⟨h.all.later hb,h.at_,h.QF.trans (hb.mono h.QF.size)⟩
theorem Seen.look(h:Seen w W N gm cnt f v L){m:Nat}(hm:m<N)(hN:N≤1000000):(Instr.lookup 123 (.map (some gm)) (.int γ (m:Int)) false).run prog W=.ok (.agg #[v (2*m),v (2*m+1)]) W:=by
 have:=Ğ (i:=0) (e:=58) (t:=123) h.all rfl (Maps.int_keyed underlying3) underlying123 (iD W) (ft (m:=m) ω);rw[this,h.at_ m hm];rfl
theorem Seen.row(h:Seen w W N gm cnt f v L){j:Nat}(hj:j<2*N):Qu W (In w.heap.size W.heap.size) (v j) (L j):=by
 have hi:(Zm prog 3 (two (ς none 0 0) (ς none 0 0)) gm cnt f::Qw (2*N) v L)[j+1]?=some (Qb 3 1 (v j) (L j).length (iV (ints (L j)))):=by rw[List.getElem?_cons_succ];exact Vs v L hj
 obtain⟨A,C,e,q1,q2⟩:=h.all.slice hi;refine⟨A,C,e,q1,q2,?_⟩;by_cases h0:(L j).length=0
 ·left
  exact c104
 ·exact c24
end
def Mz(s:Sd)(M:List Int)(row:List Nat)(m i:Nat):List Nat:=(List.range i).filter fun i=>QQ M (row.getD i 0)&&s.no (row.getD i 0)==m
theorem ot(s:Sd)(M:List Int)(row:List Nat)(m i:Nat):Mz s M row m (i+1)=Mz s M row m i++(if(QQ M (row.getD i 0)&&s.no (row.getD i 0)==m)=true then[i]else[]):=by
 unfold Mz;rw[List.range_succ,List.filter_append]
 congr 1
 exact c124
theorem rq(s:Sd)(M:List Int)(row:List Nat)(m i:Nat):(Mz s M row m i).length≤i:=by
 unfold Mz;exact QW (List.length_filter_le _ _) (by rw[List.length_range];exact Nat.le_refl _)
section
variable (a b:Sd)(M:St)(xs ys:List Nat)
def zG(sd:Nat):List Nat:=if sd=0 then xs else ys
def Yz(sd m i:Nat):List Nat:=if sd=0 then Mz a M.1 xs m i else Mz b M.2 ys m i
def XV(side i:Nat):Nat→List Nat:=fun j=>if j%2<side then Yz a b M xs ys (j%2) (j/2) (zG xs ys (j%2)).length else if j%2=side then Yz a b M xs ys side (j/2) i else[]
end
section
variable {a b:Sd}{M:St}{xs ys:List Nat}
theorem Qt9:XV a b M xs ys 0 0=fun _=>[]:=by
 funext j
 unfold XV Yz Mz;rw[if_neg ω];split <;> rfl
theorem Qub(side:Nat):XV a b M xs ys side (zG xs ys side).length=XV a b M xs ys (side+1) 0:=by
 funext j
 unfold XV;by_cases h1:j%2<side
 ·rw[if_pos h1,if_pos ω]
 ·rw[if_neg h1];by_cases h2:j%2=side
  ·rw[if_pos h2,if_pos ω,h2]
  ·rw[if_neg h2,if_neg ω];split
   ·unfold Yz Mz;split <;> rfl
   ·rfl
theorem fp(m:Nat):XV a b M xs ys 2 0 (2*m)=NJ a M.1 xs m∧XV a b M xs ys 2 0 (2*m+1)=NJ b M.2 ys m:=by
 unfold XV
 constructor
 ·rw[if_pos ω,show 2*m%2=0 by omega,show 2*m/2=m by omega];unfold Yz zG;rw[if_pos rfl,if_pos rfl];rfl
 ·rw[if_pos ω,show(2*m+1)%2=1 by omega,show(2*m+1)/2=m by omega];unfold Yz zG;rw[if_neg ω,if_neg ω];rfl
theorem Qua{side i:Nat}{s:Sd}{Ms:List Int}{row:List Nat}(h:∀m i,Yz a b M xs ys side m i=Mz s Ms row m i)(hf:QQ Ms (row.getD i 0)=false):XV a b M xs ys side (i+1)=XV a b M xs ys side i:=by
 funext j
 unfold XV;by_cases h1:j%2<side
 ·rw[if_pos h1,if_pos h1]
 ·rw[if_neg h1,if_neg h1];split
  ·rw[h,h,ot,hf,Bool.false_and,if_neg ψ,List.append_nil]
  ·rfl
theorem Qw1{side i m:Nat}{s:Sd}{Ms:List Int}{row:List Nat}(h:∀m i,Yz a b M xs ys side m i=Mz s Ms row m i)(hs:side<2)(hf:QQ Ms (row.getD i 0)=true)(hm:s.no (row.getD i 0)=m) :
 XV a b M xs ys side (i+1)=upd (XV a b M xs ys side i) (2*m+side) (XV a b M xs ys side i (2*m+side)++[i]):=by
 funext j
 by_cases e:j=2*m+side
 ·subst e;rw[Zo];have e1:(2*m+side)%2=side:=ω
  have e2:(2*m+side)/2=m:=ω
  unfold XV;rw[e1,e2,if_neg (Nat.lt_irrefl _),if_neg (Nat.lt_irrefl _),if_pos rfl,if_pos rfl,h,h,ot,hf,hm,Bool.true_and,if_pos ψ]
 ·rw[V1 _ _ e];unfold XV;by_cases h1:j%2<side
  ·rw[if_pos h1,if_pos h1]
  ·rw[if_neg h1,if_neg h1];split
   ·rename_i h2
    rw[h,h,ot,hf,hm,Bool.true_and,if_neg,List.append_nil];rw[beq_iff_eq];omega
   ·rfl
theorem Qw2(side i j:Nat)(hx:xs.length≤20000)(hy:ys.length≤20000)(hi:i≤20000):(XV a b M xs ys side i j).length≤20000:=by
 unfold XV;split
 ·unfold Yz zG;split
  ·exact QW (rq _ _ _ _ _) hx
  ·exact QW (rq _ _ _ _ _) hy
 ·split
  ·unfold Yz;split
   ·exact QW (rq _ _ _ _ _) hi
   ·exact QW (rq _ _ _ _ _) hi
  ·exact Nat.zero_le _
end
variable {w:World}{S:Nat→Prop}{g gA gB:Nat}{a b:Sd}{M:St}
structure Sc(w:World)(S:Nat→Prop)(g N side:Nat)(s:Sd)(Ms:List Int)(row:List Nat)(v:Value):Prop where
 lt:side<2
 Au:Qu w S v row
 hx:∀x∈row,x<s.n
 len:row.length≤20000
 free:∀W x,Below w.heap.size w W→x<s.n→Calls Tryz.prog 49 #[π (some ⟨g,0,none⟩),ι γ (side:Int),ι γ (x:Int)] W fun e w'=>e=ρ (τ (QQ Ms x))∧∃q,w'=W.drewN q
 Nj:∃gM oM CM gN oN CN,w.cell? ⟨g,8,none⟩=some (ς (some ⟨gM,oM,none⟩) 2 CM)∧w.cell? ⟨gM,oM+side,none⟩=some (ς (some ⟨gN,oN,none⟩) s.n CN)∧∀x,x<s.n→w.cell? ⟨gN,oN+x,none⟩=some (ι γ ((s.no x:Nat):Int))
 nob:∀x,x<s.n→s.no x<N
theorem Ö{N:Nat}{xs:List Nat}{vx:Value}(h:MS w S g gA gB a b M)(hf:Fit a b)(hx:∀x∈xs,x<a.n)(rx:Qu w S vx xs)(hp:xs.length≤20000)(hn:∀x,x<a.n→a.no x<N):Sc w S g N 0 a M.1 xs vx:=by
 refine⟨ω,rx,hx,hp,fun W x hb hx=>Gv (h.later hb) x hx,?_,hn⟩;obtain⟨gM,oM,CM,A0,C0,A1,C1,c1,c2,c3,r0,r1⟩:=h.ro.Nj.two;have hl:a.ns.length=a.n:=hf.la;obtain⟨gN,oN,rfl,_,_⟩:=r0.at_ (ints_at (Jo hl hf.nums.EG.pos));refine⟨gM,oM,CM,gN,oN,C0,c1,by rw[←hl];exact c2,fun x hx=>?_⟩;obtain⟨g',o',e',_,h1⟩:=r0.at_ (ints_at (Jo hl hx));injection e' with e';injection e' with e4 e5;subst e4;subst e5;exact h1
theorem Ø{N:Nat}{ys:List Nat}{vy:Value}(h:MS w S g gA gB a b M)(hf:Fit a b)(hy:∀y∈ys,y<b.n)(ry:Qu w S vy ys)(hq:ys.length≤20000)(hn:∀x,x<b.n→b.no x<N):Sc w S g N 1 b M.2 ys vy:=by
 refine⟨ω,ry,hy,hq,fun W x hb hx=>Gu (h.later hb) x hx,?_,hn⟩;obtain⟨gM,oM,CM,A0,C0,A1,C1,c1,c2,c3,r0,r1⟩:=h.ro.Nj.two;have hl:b.ns.length=b.n:=hf.lb;obtain⟨gN,oN,rfl,_,_⟩:=r1.at_ (ints_at (Jo hl hf.nums.Hq.pos));refine⟨gM,oM,CM,gN,oN,C1,c1,by rw[←hl];exact c3,fun x hx=>?_⟩;obtain⟨g',o',e',_,h1⟩:=r1.at_ (ints_at (Jo hl hx));injection e' with e';injection e' with e4 e5;subst e4;subst e5;exact h1
