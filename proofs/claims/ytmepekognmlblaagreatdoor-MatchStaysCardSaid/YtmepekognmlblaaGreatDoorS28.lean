import Derived.Test.YtmepekognmlblaaGreatDoorS27
set_option maxHeartbeats 32000000
set_option maxRecDepth 100000
set_option linter.unusedVariables false
open Go.ChangeShapes Go.WideShapes Go.ChangeAt Go.RowKit
open Go.Lib renaming hid→QA
open Go.RowKit.Below renaming refl→QE
open _root_.Nat renaming le_refl→QI,zero_add→ZL,lt_succ_self→qA,zero_le→ZR
open _root_.List renaming setIfInBounds_toArray→ZC,set_cons_succ→ZA,set_cons_zero→QZ,getElem?_map→VP,getElem?_eq_none→YP
open Go.World renaming block_lt_of_cell?→VJ,cell?_of_block→JW
open Go.Value renaming int→ι,slice→ς,pointer→π
open Go.IntKind renaming i64→γ
open Go.Obj renaming cells→θ
open Go.Ending renaming returned→ρ
namespace Go.Proofs.YtmepekognmlblaaGreatDoor
namespace Match
open Mem Tree Shape
def Xa(v:Nat→Nat→Nat)(q i j:Nat):List Nat:=(List.range q).map fun t=>if j≤t then v i t else 0
def Kh(v:Nat→Nat→Nat)(p q i j:Nat):List Nat:=(List.range (q+1)).map fun t=>if j≤t then QU v p q (p-i) (q-t)else 0
def G0(v:Nat→Nat→Nat)(p q i:Nat):List (List Nat):=(List.range p).map fun t=>if i≤t then Xa v q t 0 else[]
def Gj(v:Nat→Nat→Nat)(p q i:Nat):List (List Nat):=(List.range (p+1)).map fun t=>if i≤t then Kh v p q t 0 else[]
section
variable {v:Nat→Nat→Nat}{p q i j t:Nat}
theorem Ug(h:t<q):(Xa v q i j)[t]?=some (if j≤t then v i t else 0):=by unfold Xa;rw[VP,List.getElem?_range h];rfl
theorem Xx(h:t<q+1):(Kh v p q i j)[t]?=some (if j≤t then QU v p q (p-i) (q-t)else 0):=by unfold Kh;rw[VP,List.getElem?_range h];rfl
theorem ċ(h:t<p):(G0 v p q i)[t]?=some (if i≤t then Xa v q t 0 else[]):=by unfold G0;rw[VP,List.getElem?_range h];rfl
theorem fF(h:t<p+1):(Gj v p q i)[t]?=some (if i≤t then Kh v p q t 0 else[]):=by unfold Gj;rw[VP,List.getElem?_range h];rfl
theorem Jl:(Xa v q i j).length=q:=by simp[Xa]
theorem J8:(Kh v p q i j).length=q+1:=by simp[Kh]
theorem ņ:(G0 v p q i).length=p:=by simp[G0]
theorem Qrn:(Gj v p q i).length=p+1:=by simp[Gj]
theorem Qka:Xa v q i q=List.replicate q 0:=by
 unfold Xa;exact c84
theorem Qkp:Kh v p q i q=List.replicate (q+1) 0:=by
 unfold Kh;rw[List.eq_replicate_iff];refine⟨ψ,fun b hb=>?_⟩;obtain⟨t,ht,rfl⟩:=List.mem_map.1 hb;rw[List.mem_range]at ht;by_cases h:q≤t
 ·rw[if_pos h,show q-t=0 by omega];exact å _ _ _ _
 ·rw[if_neg h]
theorem Qn7:Kh v p q p 0=List.replicate (q+1) 0:=by
 unfold Kh;rw[List.eq_replicate_iff];refine⟨ψ,fun b hb=>?_⟩;obtain⟨t,ht,rfl⟩:=List.mem_map.1 hb;rw[if_pos (ZR _),Nat.sub_self];exact æ _ _ _ _
theorem Qqi(h:j<q):(Xa v q i (j+1)).set j (v i j)=Xa v q i j:=by
 apply List.ext_getElem?;intro t;rw[List.getElem?_set];by_cases ht:t<q
 ·by_cases e:j=t
  ·rw[if_pos e,if_pos (by rw[Jl];omega),Ug ht,if_pos ω,e]
  ·rw[if_neg e,Ug ht,Ug ht];by_cases h2:j≤t
   ·rw[if_pos ω,if_pos h2]
   ·rw[if_neg ω,if_neg h2]
 ·rw[if_neg ω,YP (by rw[Jl];omega),YP (by rw[Jl];omega)]
theorem Qro(h:j<q):(Kh v p q i (j+1)).set j (QU v p q (p-i) (q-j))=Kh v p q i j:=by
 apply List.ext_getElem?;intro t;rw[List.getElem?_set];by_cases ht:t<q+1
 ·by_cases e:j=t
  ·rw[if_pos e,if_pos (by rw[J8];omega),Xx ht,if_pos ω,e]
  ·rw[if_neg e,Xx ht,Xx ht];by_cases h2:j≤t
   ·rw[if_pos ω,if_pos h2]
   ·rw[if_neg ω,if_neg h2]
 ·rw[if_neg ω,YP (by rw[J8];omega),YP (by rw[J8];omega)]
theorem ą{f:Nat→List Nat}{n:Nat}(h:i<n):((List.range n).map fun t=>if i+1≤t then f t else[]).set i (f i)=(List.range n).map fun t=>if i≤t then f t else[]:=by
 apply List.ext_getElem?;intro t;rw[List.getElem?_set];by_cases ht:t<n
 ·by_cases e:i=t
  ·subst e;rw[if_pos rfl,if_pos (by simpa using h),VP,List.getElem?_range ht];simp
  ·rw[if_neg e,VP,VP,List.getElem?_range ht];simp only[Option.map_some]
   congr 1
   by_cases h2:i≤t
   ·rw[if_pos ω,if_pos h2]
   ·rw[if_neg ω,if_neg h2]
 ·rw[if_neg ω,YP (by simp;omega),YP (by simp;omega)]
theorem Qqh(h:i<p):(G0 v p q (i+1)).set i (Xa v q i 0)=G0 v p q i:=ą h
theorem Ő(h:i<p+1):(Gj v p q (i+1)).set i (Kh v p q i 0)=Gj v p q i:=ą h
theorem Ł{f:Nat→List Nat}{n:Nat}:(List.range n).map (fun t=>if n≤t then f t else[])=List.replicate n []:=by
 exact c84
theorem Qqz(hi:i<p)(hj:j<q):QU v p q (p-i) (q-j)=max (max (QU v p q (p-(i+1)) (q-j)) (QU v p q (p-i) (q-(j+1)))) (v i j+QU v p q (p-(i+1)) (q-(j+1))):=by
 obtain⟨i',hi'⟩:∃i',p-i=i'+1:=⟨p-i-1,ω⟩;obtain⟨j',hj'⟩:∃j',q-j=j'+1:=⟨q-j-1,ω⟩;rw[hi',hj',show p-(i+1)=i' by omega,show q-(j+1)=j' by omega];rw[ä];rw[show p-(i'+1)=i by omega,show q-(j'+1)=j by omega]
theorem yB(m:Nat)(hm:∀i j,v i j≤m):∀a b,QU v p q a b≤(a+b)*m
 |0,b=>by rw[æ];exact ZR _
 |a+1,0=>by rw[å];exact ZR _
 |a+1,b+1=>by
  have h1:=yB m hm a (b+1);have h2:=yB m hm (a+1) b;have h3:=yB m hm a b;have h4:=hm (p-(a+1)) (q-(b+1));have e1:(a+(b+1))*m≤(a+1+(b+1))*m:=Nat.mul_le_mul_right _ ω;have e2:(a+1+b)*m≤(a+1+(b+1))*m:=Nat.mul_le_mul_right _ ω;have e3:(a+b)*m+m+m=(a+1+(b+1))*m:=by rw[show a+1+(b+1)=a+b+1+1 by omega,Nat.succ_mul,Nat.succ_mul]
  rw[ä];omega
end
theorem ě(a b:Sd):∀(f x y v:Nat),Ef a b f x y v≤v+2*f
 |0,_,_,v=>QI _
 |f+1,x,y,v=>by
  unfold Ef;by_cases h:(a.at_ x).k=(b.at_ y).k
  ·rw[if_pos h];have h1:(if(a.at_ x).x.toList=(b.at_ y).x.toList then 1 else 0)≤1:=by split <;> omega
   split
   ·omega
   ·have:=ě a b f (x+1) (y+1) (v+1+(if(a.at_ x).x.toList=(b.at_ y).x.toList then 1 else 0));omega
  ·rw[if_neg h];omega
theorem fw(a b:Sd)(M:St)(x y:Nat):near a b M x y≤16:=by
 unfold near;split
 ·omega
 ·split
  ·omega
  ·split
   ·omega
   ·split
    ·omega
    ·unfold Es;have h1:=ě a b 4 x y (if Xm a b x y then 2 else 0);have h2:(if Xm a b x y=true then 2 else 0)≤2:=by split <;> omega
     omega
variable {w:World}{S:Nat→Prop}{g gA gB:Nat}{a b:Sd}{M:St}
def Qu(w:World)(S:Nat→Prop)(v:Value)(l:List Nat):Prop:=∃A C,v=ς A l.length C∧l.length≤C∧C≤maxLen∧Vx w S A ((ints l).map iv)
theorem Qu.later{w':World}{v:Value}{l:List Nat}(h:Qu w S v l)(hs:∀k,S k→k<w.heap.size)(hb:Below w.heap.size w w'):Qu w' S v l:=by
 obtain⟨A,C,h1,h2,h3,h4⟩:=h;exact⟨A,C,h1,h2,h3,h4.keep fun k hk=>hb.block k (hs k hk)⟩
theorem Qsn(x y u v:Nat)(W:World):(Builtin.max_ #[3,3,3] 3 #[ι γ (x:Int),ι γ (y:Int),ι γ ((u:Int)+(v:Int))]).run Tryz.prog W=.ok (ι γ ((max (max x y) (u+v):Nat):Int)) W:=by
 have h:(if(u:Int)+(v:Int)>(if(y:Int)>(x:Int)then(y:Int)else(x:Int))then(u:Int)+(v:Int)else(if(y:Int)>(x:Int)then(y:Int)else(x:Int)))=((max (max x y) (u+v):Nat):Int):=by
  split <;> split at * <;> omega
 rw[←h];simp[Builtin.max_,Builtin.max2];repeat' split
 all_goals rfl
def Qp2(v:Nat→Nat→Nat)(p q:Nat)(w:World)(e:Ending)(w':World):Prop :=
 Below w.heap.size w w'∧∃gW gS,w.heap.size≤gW∧w.heap.size≤gS∧e=ρ (.tuple #[ς (some ⟨gW,0,none⟩) p p,ς (some ⟨gS,0,none⟩) (p+1) (p+1)])∧T2 w' w.heap.size gW gS p (p+1) (G0 v p q 0) (Gj v p q 0)
theorem Qqv(w:World)(p:Nat)(hp:p≤1000000):T2 ((w.alloc (θ (Jp p) 32)).alloc (θ (Jp (p+1)) 32)) w.heap.size w.heap.size (w.heap.size+1) p (p+1) (List.replicate p []) (List.replicate (p+1) []):=by
 have h0:QH w w.heap.size []:=QH.nil w;have h1:=h0.box (e:=32) (sz:=1) (Jp p) p (by unfold maxLen;omega) (by simp[Jp]);have h2:=h1.box (e:=32) (sz:=1) (Jp (p+1)) (p+1) (by unfold maxLen;omega) (by simp[Jp]);rw[show(w.alloc (θ (Jp p) 32)).heap.size=w.heap.size+1 by simp]at h2;have jT:∀(W:World)(n:Nat)(R:List QC),QH W w.heap.size R→QH W w.heap.size (R++VW (List.replicate n NI) (List.replicate n [])):=by
  intro W n
  induction n with
  |zero=>intro R h;simpa[VW]using h
  |succ n ih=>intro R h;have:=ih _ (h.VQ (e:=3) (sz:=1));rw[List.append_assoc]at this;exact this
 have h3:=jT _ (p+1) _ (jT _ p _ h2);refine⟨⟨List.replicate p NI,List.replicate (p+1) NI,?_,ψ,ψ,fun i hi=>?_,fun i hi=>?_⟩,ψ,ψ⟩
 ·have e:TR w.heap.size (w.heap.size+1) p (p+1) (List.replicate p NI) (List.replicate (p+1) NI) (List.replicate p []) (List.replicate (p+1) [])=([]++[Qb 32 1 (ς (some ⟨w.heap.size,0,none⟩) p p) p (Jp p).toList]++[Qb 32 1 (ς (some ⟨w.heap.size+1,0,none⟩) (p+1) (p+1)) (p+1) (Jp (p+1)).toList])++VW (List.replicate p NI) (List.replicate p [])++VW (List.replicate (p+1) NI) (List.replicate (p+1) []):=by
   unfold TR;simp only[List.nil_append,List.cons_append];rfl
  rw[e];exact h3
 ·have:=(List.getElem?_eq_some_iff.1 hi).1;rw[List.length_replicate]at this;rw[List.getElem?_replicate,if_pos this]
 ·have:=(List.getElem?_eq_some_iff.1 hi).1;rw[List.length_replicate]at this;rw[List.getElem?_replicate,if_pos this]
theorem Qnr(h:MS w S g gA gB a b M)(hf:Fit a b)(xs ys:List Nat)(vx vy:Value)(hx:∀x∈xs,x<a.n)(hy:∀y∈ys,y<b.n)(rx:Qu w S vx xs)(ry:Qu w S vy ys)(hp0:0<xs.length)(hq0:0<ys.length)(hp:xs.length≤256)(hq:ys.length≤256) :
 Calls Tryz.prog 127 #[π (some ⟨g,0,none⟩),vx,vy] w (Qp2 (fun i j=>near a b M (xs.getD i 0) (ys.getD j 0)) xs.length ys.length w):=by
 have HX:=QA hx;have HY:=QA hy;obtain⟨Ax,Cx,rfl,_,_,rx⟩:=rx;obtain⟨Ay,Cy,rfl,_,_,ry⟩:=ry;have hat:∀(l:List Nat)(i:Nat),i<l.length→((ints l).map iv)[i]?=some (ι γ ((l.getD i 0:Nat):Int)):=fun l i hi=>ints_at (by rw[List.getD_eq_getElem?_getD,List.getElem?_eq_getElem hi];rfl)
 obtain⟨gx,ox,rfl,_,_⟩:=rx.at_ (hat xs 0 hp0);obtain⟨gy,oy,rfl,_,_⟩:=ry.at_ (hat ys 0 hq0);have OO:=QA h.safe
 have qL:Hid (∀i,i<xs.length→∀W,Below w.heap.size w W→W.cell? ⟨gx,ox+i,none⟩=some (ι γ ((xs.getD i 0:Nat):Int))):=fun i hi W hW=>by
  obtain⟨g',o',e,di,hc⟩:=rx.at_ (hat xs i hi);injection e with e;injection e with e1 e2;subst e1;subst e2;exact(JW (w:=w) (hW.block gx (h.safe gx di).1)).trans hc
 have Im:Hid (∀i,i<ys.length→∀W,Below w.heap.size w W→W.cell? ⟨gy,oy+i,none⟩=some (ι γ ((ys.getD i 0:Nat):Int))):=fun i hi W hW=>by
  obtain⟨g',o',e,di,hc⟩:=ry.at_ (hat ys i hi);injection e with e;injection e with e1 e2;subst e1;subst e2;exact(JW (w:=w) (hW.block gy (h.safe gy di).1)).trans hc
 have HM:=QA h;obtain⟨v,hv⟩:∃v:Nat→Nat→Nat,v=fun i j=>near a b M (xs.getD i 0) (ys.getD j 0):=⟨_,rfl⟩
 rw[←hv];have HV:Hid (∀i j,v i j=near a b M (xs.getD i 0) (ys.getD j 0)):=fun i j=>by rw[hv]
 obtain⟨p,Hz⟩:=Mem.QD (xs.length);obtain⟨q,Wc⟩:=Mem.QD (ys.length)
 have Tp:Hid (∀c d,c≤256→d≤256→QU v p q c d≤8192):=fun c d hc hd=>by
  have:=yB (v:=v) (p:=p) (q:=q) 16 (fun i j=>by rw[HV.out];exact fw _ _ _ _ _) c d;have h2:(c+d)*16≤512*16:=Nat.mul_le_mul_right _ ω;omega
 have Ij:Hid (∀i j,v i j≤16):=fun i j=>by rw[HV.out];exact fw _ _ _ _ _
 have Rb:=QA Hz;have qR:=QA Wc;rw[Hz]at hp0 hp qL⊢;rw[Wc]at hq0 hq Im⊢;have HF:=QA hf;clear rx ry hat hv Hz Wc hx hy h hf;have mk1:=Ş p ω w;go_enter Tryz.func127,Tryz.ntmps127
 go_upto_region 2 with(fail)
 clear mk1;have hst:=Qqv w p ω;have bq:=Qz w (θ (Jp p) 32);have x9:=Qz (w.alloc (θ (Jp p) 32)) (θ (Jp (p+1)) 32);have bl:=bq.trans (x9.mono bq.size);have hz1:(w.alloc (θ (Jp p) 32)).heap.size=w.heap.size+1:=ψ
 obtain⟨w1,hw1⟩:=Mem.QD (w.alloc (θ (Jp p) 32));rw[hw1]at hst bl hz1⊢;have np:=Ş (p+1) ω w1;rw[hz1]at np;simp only[Int.natCast_add,Int.natCast_one]at np;clear hw1 bq x9
 go_upto_region 3 with(fail)
 clear np;have hz2:(w1.alloc (θ (Jp (p+1)) 32)).heap.size=w.heap.size+1+1:=by simp[hz1]
 obtain⟨w2,hw2⟩:=Mem.QD (w1.alloc (θ (Jp (p+1)) 32));rw[hw2]at hst bl hz2⊢;obtain⟨gW,zV⟩:=Mem.QD (w.heap.size);obtain⟨gS,zW⟩:=Mem.QD (w.heap.size+1);have jm:Hid (w.heap.size≤gW):=by show _≤_;omega
 have wN:Hid (w.heap.size≤gS):=by show _≤_;omega
 have kE:T2 w2 w.heap.size gW gS p (p+1) (List.replicate p []) (List.replicate (p+1) []):=by rw[←zW,←zV];exact hst
 have N9:=Jg (q+1) ω w2;simp only[Int.natCast_add,Int.natCast_one]at N9;obtain⟨nc,nf,Wn,nb⟩:=kE.jU (i:=p) (q:=q+1) (by rw[List.getElem?_replicate,if_pos (qA p)]) ω (Nat.succ_pos q);rw[show(List.replicate (p+1) ([]:List Nat)).set p (List.replicate (q+1) 0)=Gj v p q p from by
  have h1:=Ő (v:=v) (p:=p) (q:=q) (i:=p) (qA p);rw[Qn7]at h1;rw[←h1]
  congr 1
  have h2:Gj v p q (p+1)=(List.range (p+1)).map (fun t=>if p+1≤t then Kh v p q t 0 else[]):=rfl;rw[h2,Ł],show List.replicate p ([]:List Nat)=G0 v p q p from(Ł (f:=fun t=>Xa v q t 0)).symm]at Wn
 have Iu:=QA Wn;have VG:=QA (bl.trans nb);rw[zW,zV];have pl:(p:Int)<(p:Int)+1:=ω
 have p0:(0:Int)≤(p:Int):=ω
 have pl':(p:Int)<((p+1:Nat):Int):=ω
 clear hst kE Wn nb bl hz1 hz2 hw2 zV zW
 go_upto_region 4 with(fail)
 obtain⟨w3,hw3⟩:∃w3,(w2.alloc (θ (iV (List.replicate (q+1) 0)).toArray 3)).setCell ⟨gS,p,none⟩ (ς (some ⟨w2.heap.size,0,none⟩) (q+1) (q+1))=w3:=⟨_,rfl⟩;rw[hw3]at Iu VG⊢;clear hw3 nc nf N9 pl pl';go_wp2
 go_loopw [8] (fun s8 wr=>∃(k:Nat)(z:Int),k≤p∧z=(k:Int)-1∧s8=ι γ z∧Hid (T2 wr w.heap.size gW gS p (p+1) (G0 v p q k) (Gj v p q k))∧Hid (Below w.heap.size w wr)) (fun s _=>(intOf s+1).toNat)
 case atStart=>exact⟨p,(p:Int)-1,QI _,rfl,rfl,Iu.out,VG.out⟩
 case round =>
  clear Iu VG;obtain⟨k,z,hk,hz,rfl,HT,HB⟩:=hrel;cases k with
  |zero =>
   obtain rfl:z = -1:=ω
   clear hz hk;go_wp2
   go_ret2
   exact⟨HB.out,gW,gS,jm.out,wN.out,rfl,HT.out⟩
  |succ i =>
   obtain rfl:z=(i:Int):=ω
   have hi0:(0:Int)≤(i:Int):=ω
   have TJ:(i:Int)<(p:Int):=ω
   have Q20:(i:Int)<(p:Int)+1:=ω
   have mkA:=Jg q ω wr;obtain⟨ac,af,ha,ab⟩:=HT.out.tX (i:=i) (q:=q) (by rw[ċ ω,if_neg ω]) ω hq0;rw[←Qka (v:=v) (i:=i)]at ha;have HA:=QA ha;have jq:=QA (HB.out.trans ab);have hHB:=ab;have HK:=QA hk;clear hz ha ab hHB hk HT HB
   go_upto_region 8 with(fail)
   obtain⟨wa,M6⟩:∃wa,(wr.alloc (θ (iV (List.replicate q 0)).toArray 3)).setCell ⟨gW,i,none⟩ (ς (some ⟨wr.heap.size,0,none⟩) q q)=wa:=⟨_,rfl⟩;rw[M6]at HA jq⊢;clear M6 ac af mkA;have N8:=Jg (q+1) ω wa;simp only[Int.natCast_add,Int.natCast_one]at N8;obtain⟨bc,bf,hb,bb⟩:=HA.out.jU (i:=i) (q:=q+1) (by have:=HK.out;rw[fF ω,if_neg ω]) ω (Nat.succ_pos q);rw[←Qkp (v:=v) (p:=p) (i:=i)]at hb;have wY:=QA hb;have JP:=QA (jq.out.trans bb);have mZ:(i:Int)<((p+1:Nat):Int):=ω
   clear hb bb HA jq
   go_upto_region 9 with(fail)
   obtain⟨wb,hwb⟩:∃wb,(wa.alloc (θ (iV (List.replicate (q+1) 0)).toArray 3)).setCell ⟨gS,i,none⟩ (ς (some ⟨wa.heap.size,0,none⟩) (q+1) (q+1))=wb:=⟨_,rfl⟩;rw[hwb]at wY JP⊢;clear hwb bc bf N8;go_wp2
   go_loopw [9] (fun s9 wr=>∃(k:Nat)(z:Int),k≤q∧z=(k:Int)-1∧s9=ι γ z∧Hid (T2 wr w.heap.size gW gS p (p+1) ((G0 v p q (i+1)).set i (Xa v q i k)) ((Gj v p q (i+1)).set i (Kh v p q i k)))∧Hid (Below w.heap.size w wr)) (fun s _=>(intOf s+1).toNat)
   case atStart=>exact⟨q,(q:Int)-1,QI _,rfl,rfl,wY.out,JP.out⟩
   case round =>
    clear wY JP;obtain⟨kj,zj,hkj,M5,rfl,HT,HB⟩:=hrel;cases kj with
    |zero =>
     obtain rfl:zj = -1:=ω
     clear M5 hkj;have ht:=HT.out;rw[Qqh (by have:=HK.out;omega),Ő (by have:=HK.out;omega)]at ht;have HT2:=QA ht;clear ht HT;go_wp2
     go_roundw
     case rel=>exact⟨i,(i:Int)-1,by have:=HK.out;omega,rfl,by go_num,HT2.out,HB.out⟩
     case measure=>simp[intOf]
    |succ j =>
     obtain rfl:zj=(j:Int):=ω
     have Mf:(0:Int)≤(j:Int):=ω
     have FD:(j:Int)<(q:Int):=ω
     have Q2y:(j:Int)<(q:Int)+1:=ω
     have xe:i<p:=by have:=HK.out;omega
     have Dg:j<q:=ω
     have PI:((G0 v p q (i+1)).set i (Xa v q i (j+1)))[i]?=some (Xa v q i (j+1)):=List.getElem?_set_self (by rw[ņ];exact xe);obtain⟨gr,Cr,rc,_,_,_,_⟩:=HT.out.jy PI (j:=j) (by rw[Jl];exact Dg) (v i j);rw[Jl]at rc
     have OP:Hid (∀W,Below wr.heap.size wr W→(∃u,W.cell? ⟨gr,j,none⟩=some u)∧W.frozen? ⟨gr,j,none⟩=false∧(T2 (W.setCell ⟨gr,j,none⟩ (ι γ ((v i j:Nat):Int))) w.heap.size gW gS p (p+1) ((G0 v p q (i+1)).set i (Xa v q i j)) ((Gj v p q (i+1)).set i (Kh v p q i (j+1)))∧Below w.heap.size W (W.setCell ⟨gr,j,none⟩ (ι γ ((v i j:Nat):Int)))∧Below w.heap.size w (W.setCell ⟨gr,j,none⟩ (ι γ ((v i j:Nat):Int))))):=fun W hW=>by
      obtain⟨gr',Cr',eU,ru,rf,rt,rb⟩:=(HT.out.later hW).jy PI (j:=j) (by rw[Jl];exact Dg) (v i j);have e:W.cell? ⟨gW,i,none⟩=wr.cell? ⟨gW,i,none⟩:=JW (w:=wr) (hW.block gW (VJ _ _ rc));rw[Jl]at eU;rw[e,rc]at eU;simp only[Option.some.injEq,Value.slice.injEq,Addr.mk.injEq]at eU;obtain⟨⟨rfl,_⟩,_⟩:=eU;rw[List.set_set,Qqi Dg]at rt;have ZT:=HB.out.trans (hW.mono HB.out.size);exact⟨ru,rf,rt,rb,ZT.trans rb⟩
     have KQ:Hid (∀W,Below wr.heap.size wr W→W.cell? ⟨gW,i,none⟩=some (ς (some ⟨gr,0,none⟩) q Cr)∧W.cell? ⟨gx,ox+i,none⟩=some (ι γ ((xs.getD i 0:Nat):Int))∧W.cell? ⟨gy,oy+j,none⟩=some (ι γ ((ys.getD j 0:Nat):Int))∧True):=fun W hW=>by
      have ZT:=HB.out.trans (hW.mono HB.out.size);exact⟨(JW (w:=wr) (hW.block gW (VJ _ _ rc))).trans rc,qL.out i xe W ZT,Im.out j Dg W ZT,trivial⟩
     have ja:Hid (∀W,Below wr.heap.size wr W→Calls Tryz.prog 97 #[π (some ⟨g,0,none⟩),ι γ ((xs.getD i 0:Nat):Int),ι γ ((ys.getD j 0:Nat):Int)] W fun e w'=>e = ρ (ι γ ((v i j:Nat):Int))∧Below W.heap.size W w'):=fun W hW=>by
      have ZT:=HB.out.trans (hW.mono HB.out.size);have hmx:xs.getD i 0<a.n:=HX.out _ (QJ (by rw[Rb.out];exact xe));have hmy:ys.getD j 0<b.n:=HY.out _ (QJ (by rw[qR.out];exact Dg));have:=fV (HM.out.later ZT) HF.out (xs.getD i 0) (ys.getD j 0) hmx hmy;rwa[←HV.out]at this
     have YR:=QA HB.out;have Iz:=QA Dg;have XA:=QA xe;generalize xs.getD i 0=x at *;generalize ys.getD j 0=y at *;clear rc PI HT HB M5 hkj xe Dg
     go_upto_region 12 with(fail)
     refine Qbq 16 (fun W=>Below wr.heap.size wr W) (fun W W'=>Below w.heap.size W W'∧((T2 W w.heap.size gW gS p (p+1) ((G0 v p q (i+1)).set i (Xa v q i j)) ((Gj v p q (i+1)).set i (Kh v p q i (j+1)))∧Below w.heap.size w W)→(T2 W' w.heap.size gW gS p (p+1) ((G0 v p q (i+1)).set i (Xa v q i j)) ((Gj v p q (i+1)).set i (Kh v p q i (j+1)))∧Below w.heap.size w W'))) [Cd.is (ς (some ⟨gW,0,none⟩) p p),Cd.is (ι γ ((i:Int))),Cd.is (π (some ⟨gW,i,none⟩)),Cd.is (ς (some ⟨gr,0,none⟩) q Cr),Cd.is (ι γ ((j:Int))),Cd.is (π (some ⟨g,0,none⟩)),Cd.is (ς (some ⟨gx,ox,none⟩) p Cx),Cd.is (ι γ ((i:Int))),Cd.is (π (some ⟨gx,ox+i,none⟩)),Cd.is (ι γ (((x:Nat):Int))),Cd.is (ς (some ⟨gy,oy,none⟩) q Cy),Cd.is (ι γ ((j:Int))),Cd.is (π (some ⟨gy,oy+j,none⟩)),Cd.is (ι γ (((y:Nat):Int))),Cd.is (ι γ (((v i j:Nat):Int))),Cd.is (π (some ⟨gr,j,none⟩)),⟨fun _ W=>(T2 W w.heap.size gW gS p (p+1) ((G0 v p q (i+1)).set i (Xa v q i j)) ((Gj v p q (i+1)).set i (Kh v p q i (j+1)))∧Below w.heap.size w W),fun _ _ _ h z=>h.2 z⟩] χ δ χ ((QE _ _).drew) ⟨QE _ _,id⟩ (fun _ _ _ h k=>⟨h.1.trans k.1,fun z=>k.2 (h.2 z)⟩) ?steps ?behind
     case steps =>
      intro xv W hW a ha
      skip
      simp only[Qi]at ha;simp only[ZC,ZA,QZ,ZL,Nat.reduceAdd]at ha;subst ha;refine⟨?s0,?s1,?s2,?s3,?s4,?s5,?s6,?s7,?s8,?s9,?JQ,?GA,?YU,?EU,?UU,?PA,?ED,trivial⟩;all_goals intro hI hS hd K hK
      all_goals(try simp only[Act.put,ZC,ZA,QZ]at hK)
      case s0|s1|s4|s5|s6|s7|JQ|GA=>clear hd;exact c82
      case s2=>have hx0:xv 0=ς (some ⟨gW,0,none⟩) p p:=hd 0 χ;have hx1:xv 1=ι γ ((i:Int)):=hd 1 χ;clear hd;rw[hx0]at hK⊢;rw[hx1]at hK⊢;exact c82
      case s3=>have hx2:xv 2=π (some ⟨gW,i,none⟩):=hd 2 χ;clear hd;rw[hx2]at hK⊢;exact c65
      case s8=>have JR:xv 6=ς (some ⟨gx,ox,none⟩) p Cx:=hd 6 χ;have YX:xv 7=ι γ ((i:Int)):=hd 7 χ;clear hd;rw[JR]at hK⊢;rw[YX]at hK⊢;exact c82
      case s9=>have UX:xv 8=π (some ⟨gx,ox+i,none⟩):=hd 8 χ;clear hd;rw[UX]at hK⊢;exact c65
      case YU=>have ZE:xv 10=ς (some ⟨gy,oy,none⟩) q Cy:=hd 10 χ;have JE:xv 11=ι γ ((j:Int)):=hd 11 χ;clear hd;rw[ZE]at hK⊢;rw[JE]at hK⊢;exact c82
      case EU=>have XL:xv 12=π (some ⟨gy,oy+j,none⟩):=hd 12 χ;clear hd;rw[XL]at hK⊢;exact c65
      case UU=>have JB:xv 5=π (some ⟨g,0,none⟩):=hd 5 χ;have Lx:xv 9=ι γ (((x:Nat):Int)):=hd 9 χ;have YY:xv 13=ι γ (((y:Nat):Int)):=hd 13 χ;clear hd;rw[JB]at hK⊢;rw[Lx]at hK⊢;rw[YY]at hK⊢;refine(if_pos (by rfl)).mpr ?_;have JD:=hS (.inl χ);have HN:=ja.out W JD;have hws:=YR.out.trans (JD.mono YR.out.size);go_simp;refine c₁ HN fun W2 hb2=>?_;exact hK.out _ _ ⟨hb2.mono hws.size,fun z=>⟨z.1.later hb2,z.2.trans (hb2.mono z.2.size)⟩⟩ (.inr fun z=>z.trans (hb2.mono z.size)) rfl
      case PA=>have hx3:xv 3=ς (some ⟨gr,0,none⟩) q Cr:=hd 3 χ;have JJ:xv 4=ι γ ((j:Int)):=hd 4 χ;clear hd;rw[hx3]at hK⊢;rw[JJ]at hK⊢;exact c82
      case ED=>have PH:xv 14=ι γ (((v i j:Nat):Int)):=hd 14 χ;have EZ:xv 15=π (some ⟨gr,j,none⟩):=hd 15 χ;clear hd;rw[PH]at hK⊢;rw[EZ]at hK⊢;refine(if_pos (by rfl)).mpr ?_;have JD:=hS (.inr rfl);obtain⟨hc0,EK,hfin⟩:=OP.out W JD;obtain⟨u0,hc0⟩:=hc0;go_simp;exact hK.out undef _ ⟨hfin.2.1,fun _=>⟨hfin.1,hfin.2.2⟩⟩ (.inl trivial) ⟨hfin.1,hfin.2.2⟩
     case behind =>
      intro xv W hW hx a ha
      skip
      simp only[Qi]at ha;simp only[ZC,ZA,QZ,ZL,Nat.reduceAdd]at ha;subst ha;have hL:=hx 16 δ;have zg:Hid (T2 W w.heap.size gW gS p (p+1) ((G0 v p q (i+1)).set i (Xa v q i j)) ((Gj v p q (i+1)).set i (Kh v p q i (j+1)))∧Below w.heap.size w W):=hL;clear hx hW hL;obtain⟨wq,rfl⟩:∃wq,wq=W:=⟨_,rfl⟩;clear OP KQ ja;have lh:((Gj v p q (i+1)).set i (Kh v p q i (j+1)))[i]?=some (Kh v p q i (j+1)):=List.getElem?_set_self (by rw[Qrn];have:=XA.out;omega);have kG:((Gj v p q (i+1)).set i (Kh v p q i (j+1)))[i+1]?=some (Kh v p q (i+1) 0):=by rw[List.getElem?_set_ne ω,fF (by have:=XA.out;omega),if_pos (QI _)]
      have PI:((G0 v p q (i+1)).set i (Xa v q i j))[i]?=some (Xa v q i j):=List.getElem?_set_self (by rw[ņ];exact XA.out);obtain⟨gs,Cs,sc,_,_,_,_⟩:=zg.out.1.jz lh (j:=j) (by rw[J8];have:=Iz.out;omega) 0;obtain⟨A1,C1,sc1,tz⟩:=zg.out.1.Av kG;obtain⟨A0,C0,tB,N1⟩:=zg.out.1.Av lh;obtain⟨AW,CW,wc0,T6⟩:=zg.out.1.VB PI;rw[sc]at tB;simp only[Option.some.injEq,Value.slice.injEq]at tB;obtain⟨rfl,_,rfl⟩:=tB;rw[J8]at sc sc1;rw[Jl]at wc0;have LP:∀(l:List Nat)(t z:Nat),l[t]?=some z→(l.map nv)[t]?=some (ι γ ((z:Nat):Int)):=fun l t z h=>by rw[VP,h];rfl
      obtain⟨g1,o1,rfl,_,d1⟩:=tz.at_ (LP _ j _ (Xx (by have:=Iz.out;omega)));obtain⟨g1',o1',NA,_,d2⟩:=tz.at_ (LP _ (j+1) _ (Xx (by have:=Iz.out;omega)));injection NA with NA;injection NA with ea eb;subst ea;subst eb;obtain⟨g0',o0',dU,_,d3⟩:=N1.at_ (LP _ (j+1) _ (Xx (by have:=Iz.out;omega)));injection dU with dU;injection dU with ea eb;subst ea;subst eb;obtain⟨g2,o2,rfl,_,d4⟩:=T6.at_ (LP _ j _ (Ug Iz.out));rw[if_pos (ZR _)]at d1 d2;rw[if_pos (QI _)]at d3 d4;rw[ZL]at d3;have hstep:=Qqz (v:=v) XA.out Iz.out;have b1:=Tp.out (p-(i+1)) (q-j) ω ω;have b2:=Tp.out (p-i) (q-(j+1)) ω ω;have b3:=Tp.out (p-(i+1)) (q-(j+1)) ω ω;have b4:=Ij.out i j
      have GX:Hid (∀W,Below wq.heap.size wq W→(∃u,W.cell? ⟨gs,j,none⟩=some u)∧W.frozen? ⟨gs,j,none⟩=false∧T2 (W.setCell ⟨gs,j,none⟩ (ι γ ((QU v p q (p-i) (q-j):Nat):Int))) w.heap.size gW gS p (p+1) ((G0 v p q (i+1)).set i (Xa v q i j)) ((Gj v p q (i+1)).set i (Kh v p q i j))∧Below w.heap.size w (W.setCell ⟨gs,j,none⟩ (ι γ ((QU v p q (p-i) (q-j):Nat):Int)))):=fun W hW=>by
       obtain⟨gs',Cs',tC,su,sf,st,sb⟩:=(zg.out.1.later hW).jz lh (j:=j) (by rw[J8];have:=Iz.out;omega) (QU v p q (p-i) (q-j));have e:W.cell? ⟨gS,i,none⟩=wq.cell? ⟨gS,i,none⟩:=JW (w:=wq) (hW.block gS (VJ _ _ sc));rw[J8,e,sc]at tC;simp only[Option.some.injEq,Value.slice.injEq,Addr.mk.injEq]at tC;obtain⟨⟨rfl,_⟩,_⟩:=tC;rw[List.set_set,Qro Iz.out]at st;have ZT:=zg.out.2.trans (hW.mono zg.out.2.size);exact⟨su,sf,st,ZT.trans sb⟩
      rw[hstep]at GX;generalize QU v p q (p-(i+1)) (q-j)=s1 at *;generalize QU v p q (p-i) (q-(j+1))=s2 at *;generalize QU v p q (p-(i+1)) (q-(j+1))=s3 at *;generalize v i j=vz at *;have hmax:=Qsn s1 s2 vz s3;have tq:IntKind.i64.wrap ((vz:Int)+(s3:Int))=(vz:Int)+(s3:Int):=by rw[IntKind.wrap_i64];omega
      have wi1:IntKind.i64.wrap ((i:Int)+1)=(i:Int)+1:=by rw[IntKind.wrap_i64];omega
      have wj1:IntKind.i64.wrap ((j:Int)+1)=(j:Int)+1:=by rw[IntKind.wrap_i64];omega
      have i1p:(i:Int)+1<(p:Int)+1:=ω
      have j1q:(j:Int)+1<(q:Int)+1:=ω
      have i10:(0:Int)≤(i:Int)+1:=ω
      have j10:(0:Int)≤(j:Int)+1:=ω
      clear tz N1 T6 lh kG PI LP hstep b1 b2 b3 b4;go_wp2
      go_still_tail 40,χ
      change wpList _ _ _ _ _ wq.drew;obtain⟨⟨us,pc⟩,pf,Aw⟩:=GX.out wq.drew (Q8 wq);clear d1 d2 d3 d4;generalize wq.drew=wd at *;simp only[Nat.max_assoc]at Aw;go_wp2
      go_roundw
      case rel=>exact⟨j,(j:Int)-1,by have:=Iz.out;omega,rfl,rfl,Aw.1,Aw.2⟩
      case measure=>simp[intOf]
end Match
namespace Match
open Mem Tree Shape
variable {w:World}{S:Nat→Prop}{g gA gB:Nat}{a b:Sd}{M:St}
def TP(W:World)(gt n m:Nat)(v:Nat→Nat→Nat):Prop:=∀i,i<n→∃r o C,W.cell? ⟨gt,i,none⟩=some (ς (some ⟨r,o,none⟩) m C)∧∀j,j<m→W.cell? ⟨r,o+j,none⟩=some (ι γ ((v i j:Nat):Int))
theorem Qxr{w1 w':World}{B gW gS p q:Nat}{v:Nat→Nat→Nat}(h:T2 w1 B gW gS p (p+1) (G0 v p q 0) (Gj v p q 0))(hq:0<q)(hA:gA<B)(hB:gB<B)(hW:B≤gW)(hS:B≤gS)(ht:QB gA gB w1 w') :
 TP w' gW p q v∧TP w' gS (p+1) (q+1) (fun i j=>QU v p q (p-i) (q-j)):=by
 have same:∀k i u,w1.cell? ⟨k,i,none⟩=some u→B≤k→w'.cell? ⟨k,i,none⟩=some u:=fun k i u hu hk =>
  (JW (w:=w1) (ht.block k (World.block_lt_of_cell? _ _ hu) ω ω)).trans hu
 have LP:∀(l:List Nat)(t z:Nat),l[t]?=some z→(l.map nv)[t]?=some (ι γ ((z:Nat):Int)):=fun l t z h=>by rw[List.getElem?_map,h];rfl
 constructor
 ·intro i hi;obtain⟨A,C,hc,hr⟩:=h.VB (i:=i) (by rw[ċ hi,if_pos (ZR _)]);rw[Jl]at hc;obtain⟨r,o,rfl,hb,hc0⟩:=hr.at_ (LP _ 0 _ (Ug hq));refine⟨r,o,C,same _ _ _ hc hW,fun j hj=>?_⟩;obtain⟨r',o',e,hb',xI⟩:=hr.at_ (LP _ j _ (Ug hj));exact c116
 ·intro i hi;obtain⟨A,C,hc,hr⟩:=h.Av (i:=i) (by rw[fF hi,if_pos (ZR _)]);rw[J8]at hc;obtain⟨r,o,rfl,hb,hc0⟩:=hr.at_ (LP _ 0 _ (Xx (Nat.succ_pos q)));refine⟨r,o,C,same _ _ _ hc hS,fun j hj=>?_⟩;obtain⟨r',o',e,hb',xI⟩:=hr.at_ (LP _ j _ (Xx hj));exact c116
theorem Qu.cells{v:Value}{l:List Nat}(h:Qu w S v l)(h0:0<l.length):∃gx ox C,v=ς (some ⟨gx,ox,none⟩) l.length C∧S gx∧l.length≤C∧C≤maxLen∧∀i,i<l.length→w.cell? ⟨gx,ox+i,none⟩=some (ι γ ((l.getD i 0:Nat):Int)):=by
 obtain⟨A,C,rfl,h1,h2,hr⟩:=h;have hat:∀i:Nat,i<l.length→((ints l).map iv)[i]?=some (ι γ ((l.getD i 0:Nat):Int)):=fun i hi=>ints_at (by rw[List.getD_eq_getElem?_getD,List.getElem?_eq_getElem hi];rfl)
 obtain⟨gx,ox,rfl,hS,_⟩:=hr.at_ (hat 0 h0);refine⟨gx,ox,C,rfl,hS,h1,h2,fun i hi=>?_⟩;obtain⟨g',o',e,_,hc⟩:=hr.at_ (hat i hi);exact c89
theorem G6(a b:Sd)(v:Nat→Nat→Nat)(xs ys:List Nat):∀(f f':Nat)(M:St)(i j:Nat),(xs.length-i)+(ys.length-j)≤f→(xs.length-i)+(ys.length-j)≤f'→QR a b v xs ys f M i j=QR a b v xs ys f' M i j
 |0,0,M,i,j,_,_=>rfl
 |0,f'+1,M,i,j,h,_=>by
  unfold QR;rw[if_neg ω]
 |f+1,0,M,i,j,_,h=>by
  unfold QR;rw[if_neg ω]
 |f+1,f'+1,M,i,j,h1,h2=>by
  unfold QR;by_cases hc:i<xs.length∧j<ys.length
  ·rw[if_pos hc,if_pos hc,G6 a b v xs ys f f' _ (i+1) (j+1) ω ω,G6 a b v xs ys f f' _ (i+1) j ω ω,G6 a b v xs ys f f' _ i (j+1) ω ω]
  ·rw[if_neg hc,if_neg hc]
theorem Qoh(h:MS w S g gA gB a b M)(hf:Fit a b)(xs ys:List Nat)(vx vy:Value)(hx:∀x∈xs,x<a.n)(hy:∀y∈ys,y<b.n)(rx:Qu w S vx xs)(ry:Qu w S vy ys)(hp0:0<xs.length)(hq0:0<ys.length)(hp:xs.length≤256)(hq:ys.length≤256) :
 Calls Tryz.prog 98 #[π (some ⟨g,0,none⟩),vx,vy] w (Js S g gA gB a b w (piece a b M xs ys)):=by
 have HW:=QA (Qnr h hf xs ys vx vy hx hy rx ry hp0 hq0 hp hq);obtain⟨gx,ox,Cx,rfl,sx,cx,mx,WH⟩:=rx.cells hp0;obtain⟨gy,oy,Cy,rfl,sy,cy,my,WG⟩:=ry.cells hq0;have sB:Hid (∀W,QB gA gB w W→∀i,i<xs.length→W.cell? ⟨gx,ox+i,none⟩=some (ι γ ((xs.getD i 0:Nat):Int))):=fun W hW i hi =>
  (JW (w:=w) (hW.block gx (h.safe gx sx).1 (h.safe gx sx).2.1 (h.safe gx sx).2.2)).trans (WH i hi)
 have Pq:Hid (∀W,QB gA gB w W→∀i,i<ys.length→W.cell? ⟨gy,oy+i,none⟩=some (ι γ ((ys.getD i 0:Nat):Int))):=fun W hW i hi =>
  (JW (w:=w) (hW.block gy (h.safe gy sy).1 (h.safe gy sy).2.1 (h.safe gy sy).2.2)).trans (WG i hi)
 have HX:Hid (∀i,i<xs.length→xs.getD i 0<a.n):=fun i hi=>hx _ (QJ hi)
 have HY:Hid (∀i,i<ys.length→ys.getD i 0<b.n):=fun i hi=>hy _ (QJ hi)
 have hlA:gA<w.heap.size:=by
  rcases Nat.lt_or_ge gA w.heap.size with h1|h1
  ·exact h1
  ·have:=h.mA;rw[Array.getElem?_eq_none h1]at this;cases this
 have hlB:gB<w.heap.size:=by
  rcases Nat.lt_or_ge gB w.heap.size with h1|h1
  ·exact h1
  ·have:=h.mB;rw[Array.getElem?_eq_none h1]at this;cases this
 have HM:=QA h;have HF:=QA hf;obtain⟨v,hv⟩:∃v:Nat→Nat→Nat,v=fun i j=>near a b M (xs.getD i 0) (ys.getD j 0):=⟨_,rfl⟩
 rw[←hv]at HW;have HP:Hid (piece a b M xs ys=QR a b v xs ys (xs.length+ys.length) M 0 0):=by show _=_;rw[hv];rfl
 have Ij:Hid (∀i j,v i j≤16):=fun i j=>by rw[hv];exact fw _ _ _ _ _
 generalize piece a b M xs ys=MR at *;obtain⟨p,Hz⟩:=Mem.QD (xs.length);obtain⟨q,Wc⟩:=Mem.QD (ys.length);have Rb:=QA Hz;have qR:=QA Wc
 have Tp:Hid (∀c d,c≤257→d≤257→QU v p q c d≤16384):=fun c d hc hd=>by
  have:=yB (v:=v) (p:=p) (q:=q) 16 (fun i j=>Ij.out i j) c d;have h2:(c+d)*16≤514*16:=Nat.mul_le_mul_right _ ω;omega
 rw[Hz]at hp0 hp sB HX cx HW HP⊢;rw[Wc]at hq0 hq Pq HY cy HW HP⊢;unfold maxLen at mx my;clear hx hy rx ry WH WG sx sy h hf hv Hz Wc;go_enter Tryz.func98,Tryz.ntmps98;go_wp2_with fail;refine HW.out.mono ?_;rintro e w1 ⟨hb1,gW,gS,zV,zW,rfl,ht⟩;have GF:Hid (QB gA gB w w1):=QB.of_below hb1;have NL:Hid (∀W,QB gA gB w1 W→TP W gW p q v∧TP W gS (p+1) (q+1) (fun i j=>QU v p q (p-i) (q-j))):=fun W hW=>Qxr ht hq0 hlA hlB zV zW hW
 have MF:=QA (HM.out.later hb1);clear hb1 zV zW ht HW hlA hlB HM;go_wp2
 go_loopw [8,9] (fun s8 s9 wr=>∃(i j:Nat)(M':St),i≤p∧j≤q∧s8=ι γ (i:Int)∧s9=ι γ (j:Int)∧Hid (MS wr S g gA gB a b M'∧QB gA gB w1 wr∧MR=QR a b v xs ys (p+q-(i+j)) M' i j)) (fun s8 s9 _=>p+q-((intOf s8).toNat+(intOf s9).toNat))
 case atStart=>exact⟨0,0,M,ZR _,ZR _,rfl,rfl,MF.out,QB.refl _ _ _,HP.out⟩
 case round =>
  clear MF HP;obtain⟨i,j,M',hi,hj,rfl,rfl,H⟩:=hrel;by_cases TJ:i<p
  ·by_cases FD:j<q
   ·have xa:(i:Int)<(p:Int):=ω
    have mW:(j:Int)<(q:Int):=ω
    have hi0:(0:Int)≤(i:Int):=ω
    have Mf:(0:Int)≤(j:Int):=ω
    obtain⟨tw,ts⟩:=NL.out wr H.out.2.1;obtain⟨r1,o1,C1,a1,a2⟩:=tw i TJ;have a3:=a2 j FD;obtain⟨r2,o2,C2,b1,b2⟩:=ts i ω;have b3:=b2 j ω;obtain⟨r3,o3,C3,c1,c2⟩:=ts (i+1) ω;have c3:=c2 (j+1) ω;have c4:=c2 j ω;simp only at b3 c3 c4;have d1:=sB.out wr (GF.out.trans H.out.2.1) i TJ;have d2:=Pq.out wr (GF.out.trans H.out.2.1) j FD;have EO:=QA (fun(W:World)(hW:MS W S g gA gB a b M')=>J9 hW HF.out (xs.getD i 0) (ys.getD j 0) (HX.out i TJ) (HY.out j FD));have HR:Hid (MR=if 0<v i j∧QU v p q (p-i) (q-j)=v i j+QU v p q (p-(i+1)) (q-(j+1))then QR a b v xs ys (p+q-(i+j)-1) (QK a b M' (xs.getD i 0) (ys.getD j 0)) (i+1) (j+1)else if QU v p q (p-i) (q-j)=QU v p q (p-(i+1)) (q-j)then QR a b v xs ys (p+q-(i+j)-1) M' (i+1) j else QR a b v xs ys (p+q-(i+j)-1) M' i (j+1)):=by show _=_;rw[H.out.2.2,show p+q-(i+j)=(p+q-(i+j)-1)+1 by omega];show(if i<xs.length∧j<ys.length then _ else _)=_;rw[if_pos ⟨by rw[Rb.out];exact TJ,by rw[qR.out];exact FD⟩,Rb.out,qR.out];rfl
    have b4:=Tp.out (p-i) (q-j) ω ω;have b5:=Tp.out (p-(i+1)) (q-(j+1)) ω ω;have b6:=Tp.out (p-(i+1)) (q-j) ω ω;have b7:=Ij.out i j;have JL:=QA H.out.1;have DR:=QA H.out.2.1;generalize QU v p q (p-i) (q-j)=s0 at *;generalize QU v p q (p-(i+1)) (q-(j+1))=s1 at *;generalize QU v p q (p-(i+1)) (q-j)=s2 at *;generalize v i j=vz at *;generalize xs.getD i 0=x at *;generalize ys.getD j 0=y at *;have tq:IntKind.i64.wrap ((vz:Int)+(s1:Int))=(vz:Int)+(s1:Int):=by rw[IntKind.wrap_i64];omega
    have wi1:IntKind.i64.wrap ((i:Int)+1)=(i:Int)+1:=by rw[IntKind.wrap_i64];omega
    have wj1:IntKind.i64.wrap ((j:Int)+1)=(j:Int)+1:=by rw[IntKind.wrap_i64];omega
    have i1p:(i:Int)+1<(p:Int)+1:=ω
    have j1q:(j:Int)+1<(q:Int)+1:=ω
    have ipp:(i:Int)<(p:Int)+1:=ω
    have jqq:(j:Int)<(q:Int)+1:=ω
    have i10:(0:Int)≤(i:Int)+1:=ω
    have j10:(0:Int)≤(j:Int)+1:=ω
    have HI:=QA TJ;have HJ:=QA FD;clear tw ts a2 b2 c2 H b4 b5 b6 b7 TJ FD;by_cases hz:0<vz∧s0=vz+s1
    ·have hz1:(0:Int)<(vz:Int):=ω
     have hz0:0<vz:=hz.1;have hz2:((s0:Int)==(vz:Int)+(s1:Int))=true:=by rw[beq_iff_eq];omega
     have YQ:Hid (MR=QR a b v xs ys (p+q-(i+j)-1) (QK a b M' x y) (i+1) (j+1)):=by show _=_;rw[HR.out,if_pos hz]
     clear HR hz;go_wp2
     go_quiet (fail)
     go_wp2;obtain⟨w4,hw4⟩:=Mem.QD (wr.drewN nq);have e1:w4.cell? ⟨gx,ox+i,none⟩=some (ι γ (x:Int)):=by rw[←hw4];exact d1
     have e2:w4.cell? ⟨gy,oy+j,none⟩=some (ι γ (y:Int)):=by rw[←hw4];exact d2
     have HMD:Hid (MS w4.drew S g gA gB a b M'∧QB gA gB w1 w4.drew):=by rw[←hw4];exact⟨(JL.out.drewN nq).later (Q8 _),(DR.out.trans (QB.drewN wr nq)).trans (QB.of_below (Q8 _))⟩
     rw[hw4];clear hw4
     go_still_tail 9,χ
     change wpList _ _ _ _ _ w4.drew;clear e1 e2;generalize w4.drew=w5 at *;go_wp2_with fail;refine(EO.out _ HMD.out.1).mono ?_;rintro e w6 ⟨rfl,nZ,lv⟩;have HM5:=QA lv;have ar:=QA (HMD.out.2.trans nZ);clear nZ lv JL DR;go_wp2
     go_roundw
     case rel=>exact⟨i+1,j+1,_,by have:=HI.out;omega,by have:=HJ.out;omega,by go_num,by go_num,HM5.out,ar.out,by rw[YQ.out,show p+q-(i+1+(j+1))=p+q-(i+j)-1-1 by omega];exact G6 _ _ _ _ _ _ _ _ _ _ (by rw[Rb.out,qR.out];have:=HI.out;have:=HJ.out;omega) (by rw[Rb.out,qR.out];omega)⟩
     case measure=>have:=HI.out;have:=HJ.out;simp[intOf];omega
    ·have YQ:Hid (MR=if s0=s2 then QR a b v xs ys (p+q-(i+j)-1) M' (i+1) j else QR a b v xs ys (p+q-(i+j)-1) M' i (j+1)):=by show _=_;rw[HR.out,if_neg hz]
     by_cases hv0:0<vz
     ·have hz1:(0:Int)<(vz:Int):=ω
      have hz2:((s0:Int)==(vz:Int)+(s1:Int))=false:=by rw[beq_eq_false_iff_ne];omega
      clear HR hz;by_cases he:s0=s2
      ·have xA:((s0:Int)==(s2:Int))=true:=by rw[beq_iff_eq];omega
       have Tt:Hid (MR=QR a b v xs ys (p+q-(i+j)-1) M' (i+1) j):=by show _=_;rw[YQ.out,if_pos he]
       clear he YQ;go_wp2
       go_quiet (fail)
       go_wp2
       go_quiet (fail)
       go_wp2
       go_roundw
       case rel=>exact c63
       case measure=>have:=HI.out;have:=HJ.out;simp[intOf];omega
      ·have xA:((s0:Int)==(s2:Int))=false:=by rw[beq_eq_false_iff_ne];omega
       have Tt:Hid (MR=QR a b v xs ys (p+q-(i+j)-1) M' i (j+1)):=by show _=_;rw[YQ.out,if_neg he]
       clear he YQ;go_wp2
       go_quiet (fail)
       go_wp2
       go_quiet (fail)
       go_wp2
       go_roundw
       case rel=>exact c61
       case measure=>have:=HI.out;have:=HJ.out;simp[intOf];omega
     ·have hz1:decide (0<vz)=false:=decide_eq_false hv0;clear HR hz hv0;by_cases he:s0=s2
      ·have xA:((s0:Int)==(s2:Int))=true:=by rw[beq_iff_eq];omega
       have Tt:Hid (MR=QR a b v xs ys (p+q-(i+j)-1) M' (i+1) j):=by show _=_;rw[YQ.out,if_pos he]
       clear he YQ;go_wp2
       go_quiet (fail)
       go_wp2
       go_quiet (fail)
       go_wp2
       go_roundw
       case rel=>exact c63
       case measure=>have:=HI.out;have:=HJ.out;simp[intOf];omega
      ·have xA:((s0:Int)==(s2:Int))=false:=by rw[beq_eq_false_iff_ne];omega
       have Tt:Hid (MR=QR a b v xs ys (p+q-(i+j)-1) M' i (j+1)):=by show _=_;rw[YQ.out,if_neg he]
       clear he YQ;go_wp2
       go_quiet (fail)
       go_wp2
       go_quiet (fail)
       go_wp2
       go_roundw
       case rel=>exact c61
       case measure=>have:=HI.out;have:=HJ.out;simp[intOf];omega
   ·have xa:(i:Int)<(p:Int):=ω
    have mW:decide (j<q)=false:=decide_eq_false FD;have Q2x:¬(j:Int)<(q:Int):=ω
    have HE:Hid (MR=M'):=by
     show _=_;rw[H.out.2.2];cases p+q-(i+j)with
     |zero=>rfl
     |succ f=>unfold QR;rw[if_neg (by rw[qR.out];omega)]
    clear FD TJ;go_wp2
    go_end0
    exact⟨rfl,GF.out.trans H.out.2.1,by rw[HE.out];exact H.out.1⟩
  ·have xa:decide (i<p)=false:=decide_eq_false TJ;have mZ:¬(i:Int)<(p:Int):=ω
   have HE:Hid (MR=M'):=by
    show _=_;rw[H.out.2.2];cases p+q-(i+j)with
    |zero=>rfl
    |succ f=>unfold QR;rw[if_neg (by rw[Rb.out];omega)]
   clear TJ;go_wp2
   go_end0
   exact⟨rfl,GF.out.trans H.out.2.1,by rw[HE.out];exact H.out.1⟩
