import Derived.Test.YtmepekognmlblaaGreatDoorG46
set_option maxHeartbeats 32000000
set_option maxRecDepth 100000
set_option linter.unusedVariables false
open Go.ChangeShapes Go.WideShapes Go.ChangeAt Go.RowKit
open Go.Lib renaming hid→QA
open Go.Value renaming string→σ,int→ι,slice→ς,bool→τ,agg→ξ
open Go.IntKind renaming i64→γ
open Go.Obj renaming cells→θ
open Go.Ending renaming returned→ρ
namespace Go.Proofs.YtmepekognmlblaaGreatDoor
namespace Match
open Mem Tree Shape
def zs:Nat→F
 |0=>.nil
 |n+1=>.cons 0 ⟨#[]⟩ ⟨#[]⟩ .nil (zs n)
theorem Xt:∀n,(zs n).size=n
 |0=>rfl
 |n+1=>by show 0+(zs n).size+1=_ ;rw[Xt n];omega
theorem iG:∀n,Zp (zs n)
 |0=>trivial
 |n+1=>⟨δ,δ,trivial,iG n⟩
theorem iF:∀n,Vf (zs n)
 |0=>trivial
 |n+1=>⟨by unfold Hg;omega,trivial,iF n⟩
theorem Qhf:∀n,Zt (zs n)=List.replicate n 1
 |0=>rfl
 |n+1=>by
  show((F.nil.size+1:Nat):Int)::(Zt .nil++Zt (zs n))=_;rw[Qhf n,List.replicate_succ];rfl
theorem Qqb:∀n,YG (List.replicate n (⟨0,⟨#[]⟩,⟨#[]⟩,.nil⟩:Nd))=zs n
 |0=>rfl
 |n+1=>by rw[List.replicate_succ];show F.cons 0 ⟨#[]⟩ ⟨#[]⟩ .nil (YG _)=_;rw[Qqb n];rfl
theorem Quj(n i:Nat):((List.replicate n (1:Int)).take i).sum≤(n:Int):=by
 rw[List.take_replicate]
 have h:∀m:Nat,(List.replicate m (1:Int)).sum=(m:Int):=fun m=>by
  induction m with
  |zero=>rfl
  |succ m ih=>rw[List.replicate_succ,List.sum_cons,ih];omega
 rw[h];omega
theorem Qqa{k:Int}{x y:ByteArray}{n:Nat}(h:n≤20010)(i:Nat):Xc (Zt (one k x y (zs n))) i≤4194304:=by
 have e:Zt (one k x y (zs n))=((n+1:Nat):Int)::List.replicate n 1:=by show(((zs n).size+1:Nat):Int)::(Zt (zs n)++Zt .nil)=_;rw[Xt,Qhf];simp[Zt]
 unfold Xc;rw[e];cases i with
 |zero=>simp
 |succ i=>rw[List.take_succ_cons,List.sum_cons];have:=Quj n i;omega
theorem Qmy{k:Int}{x y:ByteArray}(i:Nat):Xc (Zt (one k x y .nil)) i≤4194304:=yG δ i
theorem Qiq{ka kb:List Int}{L:List P2}(h:Z9 ka kb L=true)(h1:ka.length=1∨kb.length=1):L.length=1:=by
 unfold Z9 at h;rw[Bool.and_eq_true]at h;obtain⟨h0,hok⟩:=h;cases L with
 |nil=>simp at h0
 |cons p r =>
  have hp:p=(0,0):=by simpa using h0
  subst hp;cases r with
  |nil=>rfl
  |cons q r =>
   exfalso;simp only[X7,Bool.and_eq_true]at hok;obtain⟨-,hq,-⟩:=hok;obtain⟨x,y⟩:=q;obtain⟨g1,g2,g3,g4,g5,g6⟩:=Vt.1 hq;have:y≠0:=fun e=>by subst e;simp at g5
   omega
def Ja(n:Nat):Array Value:=((List.replicate n ((⟨0,⟨#[]⟩,⟨#[]⟩,.nil⟩:Nd),ς none 0 0)).flatMap VC).toArray
theorem Qtg(w:World)(n:Nat)(hn:n≤100000):Fs (w.alloc (θ (Ja n) 24)) (Lo (w.heap.size+1)) (ς (some ⟨w.heap.size,0,none⟩) n n) (zs n):=by
 have h:=Yf (w:=w.alloc (θ (Ja n) 24)) (S:=Lo (w.heap.size+1)) w.heap.size (by show _<_;omega) (List.replicate n ((⟨0,⟨#[]⟩,⟨#[]⟩,.nil⟩:Nd),ς none 0 0)) 0 n n ψ (Nat.le_refl _) ω (fun j u hu=>by
  rw[Nat.zero_add,World.cell?_alloc_at _ _ _ _ rfl];unfold Ja;simpa using hu) (fun p hp=>by
  obtain rfl:=List.eq_of_mem_replicate hp;exact V6 _ _) (some ⟨w.heap.size,0,none⟩) (.inr rfl)
 rw[List.map_replicate,Qqb]at h;exact h
def zN:Nd×Value:=(⟨0,⟨#[]⟩,⟨#[]⟩,.nil⟩,ς none 0 0)
theorem fD:∀n,((List.replicate n zN).flatMap VC).length=n*4
 |0=>rfl
 |n+1=>by rw[List.replicate_succ,List.flatMap_cons,List.length_append,fD n];show 4+n*4=_;omega
theorem Qru:∀(n j:Nat),j<n*4→((List.replicate n zN).flatMap VC)[j]?=[ι γ 0,σ ⟨#[]⟩,σ ⟨#[]⟩,ς none 0 0][j%4]?
 |0,j,h=>ω
 |n+1,j,h=>by
  rw[List.replicate_succ,List.flatMap_cons];by_cases h4:j<4
  ·rw[List.getElem?_append_left (by show j<4;exact h4),Nat.mod_eq_of_lt h4];rfl
  ·rw[List.getElem?_append_right (by show 4≤j;omega),Qru n (j-(VC zN).length) (by show j-4<_;omega)]
   congr 1
   show(j-4)%4=j%4;omega
theorem Qlg(n:Nat)(hn:n≤1000000)(w:World):(Instr.makeSlice 22 (ι γ (n:Int)) (ι γ (n:Int))).run Tryz.prog w=.ok (ς (some ⟨w.heap.size,0,none⟩) n n) (w.alloc (θ (Ja n) 24)):=by
 obtain⟨i0,hi0,hz0,hz1,hz2⟩:=info_parts Shape.Jz;have h:=run_make (P:=Tryz.prog) w 22 24 i0 (ξ #[ι γ 0,σ ⟨#[]⟩,σ ⟨#[]⟩,ς none 0 0]) Tryz.underlying22 hi0 hz0 γ γ n n ω (Int.le_refl _) (by rw[hz2];omega) ω;rw[h];simp only[Int.toNat_natCast]
 congr 2
 have:madeCells (ξ #[ι γ 0,σ ⟨#[]⟩,σ ⟨#[]⟩,ς none 0 0]).cells (n*i0.size)=Ja n:=by
  rw[hz1];have e:Ja n=((List.replicate n zN).flatMap VC).toArray:=rfl;rw[e];apply Array.ext
  ·show _=((List.replicate n zN).flatMap VC).length;rw[fD];simp[madeCells]
  ·intro i h1 h2;have h0:i<n*4:=by simpa[madeCells]using h1
   have h3:=Qru n i h0;rw[List.getElem_toArray];have h5:((List.replicate n zN).flatMap VC)[i]?=some (((List.replicate n zN).flatMap VC)[i]'(by rw[fD];exact h0)):=List.getElem?_eq_getElem _;rw[h3]at h5;have h4:i%4=0∨i%4=1∨i%4=2∨i%4=3:=ω
   rcases h4 with h4|h4|h4|h4 <;> rw[h4]at h5 <;> simp at h5 <;> simp[madeCells,Value.cells,h4,←h5]
 rw[this]
theorem Qdw(n:Int)(sec:Bool)(w:World)(hP:Pow w)(hT:Lex.XF w):Calls Tryz.prog 8 #[ι γ n,τ sec] w fun e w'=>e = ρ (τ true)∧Below w.heap.size w w':=by
 have hu0:0≤IntKind.u64.wrap n:=by rw[IntKind.wrap_u64];omega
 obtain⟨m,hm,EJ⟩:∃m:Nat,(IntKind.u64.wrap n).tmod 10=(m:Int)∧m<10:=by rw[Int.tmod_eq_emod_of_nonneg hu0];exact⟨(IntKind.u64.wrap n%10).toNat,ω,ω⟩
 obtain⟨N,hN⟩:∃N:Nat,19995+m=N:=⟨_,rfl⟩;have hmk:=fun W=>Qlg N ω W
 have hN':(19995:Int)+(m:Int)=(N:Int):=ω
 have HP:=QA hP;have HT:=QA hT;clear hP hT hu0;go_enter Tryz.func8,Tryz.ntmps8
 go_upto_region 3 with(fail)
 have z1:(w.alloc (θ (Ja N) 24)).heap.size=w.heap.size+1:=ψ
 have z2:((w.alloc (θ (Ja N) 24)).alloc (θ #[ι γ 17,σ ⟨#[]⟩,σ ⟨#[]⟩,ς (some ⟨w.heap.size,0,none⟩) N N] 24)).heap.size=w.heap.size+1+1:=ψ
 have b1:=Qz w (θ (Ja N) 24);have b2:=Qz (w.alloc (θ (Ja N) 24)) (θ #[ι γ 17,σ ⟨#[]⟩,σ ⟨#[]⟩,ς (some ⟨w.heap.size,0,none⟩) N N] 24);have b3:=Qz ((w.alloc (θ (Ja N) 24)).alloc (θ #[ι γ 17,σ ⟨#[]⟩,σ ⟨#[]⟩,ς (some ⟨w.heap.size,0,none⟩) N N] 24)) (θ #[ι γ 17,σ ⟨#[]⟩,σ ⟨#[]⟩,ς none 0 0] 24);have PT:(((w.alloc (θ (Ja N) 24)).alloc (θ #[ι γ 17,σ ⟨#[]⟩,σ ⟨#[]⟩,ς (some ⟨w.heap.size,0,none⟩) N N] 24)).alloc (θ #[ι γ 17,σ ⟨#[]⟩,σ ⟨#[]⟩,ς none 0 0] 24)).heap[w.heap.size+1]?=some (θ #[ι γ 17,σ ⟨#[]⟩,σ ⟨#[]⟩,ς (some ⟨w.heap.size,0,none⟩) N N] 24 (0,0)):=(b3.block _ ω).trans (by rw[←z1];exact heap_alloc_new _ _);have Rl:(((w.alloc (θ (Ja N) 24)).alloc (θ #[ι γ 17,σ ⟨#[]⟩,σ ⟨#[]⟩,ς (some ⟨w.heap.size,0,none⟩) N N] 24)).alloc (θ #[ι γ 17,σ ⟨#[]⟩,σ ⟨#[]⟩,ς none 0 0] 24)).heap[w.heap.size+1+1]?=some (θ #[ι γ 17,σ ⟨#[]⟩,σ ⟨#[]⟩,ς none 0 0] 24 (0,0)):=by rw[←z2];exact heap_alloc_new _ _
 have EK:=Qtg w N ω;rw[←z1]at EK;have hf3:=(EK.below b2 (Nat.le_refl _)).below b3 b2.size;rw[z1]at hf3;have hb3:=b1.trans ((b2.trans (b3.mono b2.size)).mono b1.size);have z3:(((w.alloc (θ (Ja N) 24)).alloc (θ #[ι γ 17,σ ⟨#[]⟩,σ ⟨#[]⟩,ς (some ⟨w.heap.size,0,none⟩) N N] 24)).alloc (θ #[ι γ 17,σ ⟨#[]⟩,σ ⟨#[]⟩,ς none 0 0] 24)).heap.size=w.heap.size+3:=ψ
 obtain⟨w3,hw3⟩:∃w3,(((w.alloc (θ (Ja N) 24)).alloc (θ #[ι γ 17,σ ⟨#[]⟩,σ ⟨#[]⟩,ς (some ⟨w.heap.size,0,none⟩) N N] 24)).alloc (θ #[ι γ 17,σ ⟨#[]⟩,σ ⟨#[]⟩,ς none 0 0] 24))=w3:=⟨_,rfl⟩;rw[hw3]at PT Rl hf3 hb3 z3⊢;obtain⟨g,hg⟩:=Mem.QD (w.heap.size);have HW:=QA hb3;have HF:=QA hf3;have HG:=QA hg;have HZ3:=QA z3;have hN2:N≤20004:=ω
 clear b1 b2 b3 z1 z2 EK hw3 hmk hf3 hb3 z3;rw[hg]at PT Rl HF⊢;cases sec with
 |false =>
  obtain⟨wz,hwz⟩:∃wz,wz=w3:=⟨_,rfl⟩;subst hwz;have zx:=QA HW.out;have hfz:=HF.out.up (show g+1≤wz.heap.size by have:=HZ3.out;have:=HG.out;omega);have p0:wz.cell? ⟨g+1,0,none⟩=some (ι γ 17):=by simp[World.cell?,PT]
  have p1:wz.cell? ⟨g+1,1,none⟩=some (σ ⟨#[]⟩):=by simp[World.cell?,PT]
  have p2:wz.cell? ⟨g+1,2,none⟩=some (σ ⟨#[]⟩):=by simp[World.cell?,PT]
  have p3:wz.cell? ⟨g+1,3,none⟩=some (ς (some ⟨g,0,none⟩) N N):=by simp[World.cell?,PT]
  have r0:wz.cell? ⟨g+1+1,0,none⟩=some (ι γ 17):=by simp[World.cell?,Rl]
  have r1:wz.cell? ⟨g+1+1,1,none⟩=some (σ ⟨#[]⟩):=by simp[World.cell?,Rl]
  have r2:wz.cell? ⟨g+1+1,2,none⟩=some (σ ⟨#[]⟩):=by simp[World.cell?,Rl]
  have r3:wz.cell? ⟨g+1+1,3,none⟩=some (ς none 0 0):=by simp[World.cell?,Rl]
  clear PT Rl;have ho:=Qy 17 ⟨#[]⟩ ⟨#[]⟩ (some ⟨g,0,none⟩) N N (zs N) 17 ⟨#[]⟩ ⟨#[]⟩ none 0 0 .nil wz (HP.out.on zx.out) (HT.out.below zx.out HT.out.pos) hfz (V6 _ _) (by rw[Xt];omega) δ (fun _=>Qqa ω) (fun _=>Qmy) ⟨δ,δ,iG N,δ,δ,trivial,trivial⟩ ⟨by unfold Hg;omega,iF N,by unfold Hg;omega,trivial,trivial⟩;obtain⟨er,her⟩:∃er:Int,(if 20000≤((zs N):F).size∨20000≤(.nil:F).size then 2 else 0)=er:=⟨_,rfl⟩;obtain⟨mt,RM⟩:=Mem.QD (Rz 17 ⟨#[]⟩ ⟨#[]⟩ (zs N) 17 ⟨#[]⟩ ⟨#[]⟩ .nil);rw[her,RM]at ho;have hR:(20000≤N→er=2∧mt.length=0)∧(N<20000→er=0∧mt.length=1):=by
   constructor
   ·intro h;have h2:20000≤((zs N):F).size∨20000≤(.nil:F).size:=(.inl (by rw[Xt];exact h));exact⟨by rw[←her,if_pos h2],by rw[←RM,Qm1 h2];rfl⟩
   ·intro h;have h1:((zs N):F).size<20000:=by rw[Xt];exact h
    have h2:(.nil:F).size<20000:=δ
    refine⟨by rw[←her,if_neg ω],?_⟩;rw[←RM];exact Qiq (Qw8 h1 h2) (.inr rfl)
  have HO:=QA ho;have HR:=QA hR;clear ho her RM hR hfz;go_wp2_with fail;refine HO.out.mono ?_;rintro e w6 ⟨VH,v6,rfl,Fu⟩;obtain⟨Al,Cl,rfl⟩:=Fu.slice;obtain⟨M,hM⟩:=Mem.QD (mt.length);have hR:=HR.out;rw[hM]at hR⊢;have GG:=VO zx VH;have HK:=QA (Uu w6 (HP.out.on GG.out) (HT.out.below GG.out HT.out.pos));clear VH Fu HO;by_cases hbig:20000≤N
  ·obtain⟨rfl,rfl⟩:=hR.1 hbig;have RQ:(20000:Int)<(N:Int)+1:=ω
   exact c36
  ·obtain⟨rfl,rfl⟩:=hR.2 ω;have RQ:¬(20000:Int)<(N:Int)+1:=ω
   exact c36
 |true =>
  have dG:=PT;have hB2':=Rl;have p0:w3.cell? ⟨g+1,0,none⟩=some (ι γ 17):=by simp[World.cell?,PT]
  have u0:w3.frozen? ⟨g+1,0,none⟩=false:=by simp[World.frozen?,PT]
  have p1:w3.cell? ⟨g+1,1,none⟩=some (σ ⟨#[]⟩):=by simp[World.cell?,PT]
  have u1:w3.frozen? ⟨g+1,1,none⟩=false:=by simp[World.frozen?,PT]
  have p2:w3.cell? ⟨g+1,2,none⟩=some (σ ⟨#[]⟩):=by simp[World.cell?,PT]
  have u2:w3.frozen? ⟨g+1,2,none⟩=false:=by simp[World.frozen?,PT]
  have p3:w3.cell? ⟨g+1,3,none⟩=some (ς (some ⟨g,0,none⟩) N N):=by simp[World.cell?,PT]
  have u3:w3.frozen? ⟨g+1,3,none⟩=false:=by simp[World.frozen?,PT]
  have r0:w3.cell? ⟨g+1+1,0,none⟩=some (ι γ 17):=by simp[World.cell?,Rl]
  have v0:w3.frozen? ⟨g+1+1,0,none⟩=false:=by simp[World.frozen?,Rl]
  have r1:w3.cell? ⟨g+1+1,1,none⟩=some (σ ⟨#[]⟩):=by simp[World.cell?,Rl]
  have v1:w3.frozen? ⟨g+1+1,1,none⟩=false:=by simp[World.frozen?,Rl]
  have r2:w3.cell? ⟨g+1+1,2,none⟩=some (σ ⟨#[]⟩):=by simp[World.cell?,Rl]
  have v2:w3.frozen? ⟨g+1+1,2,none⟩=false:=by simp[World.frozen?,Rl]
  have r3:w3.cell? ⟨g+1+1,3,none⟩=some (ς none 0 0):=by simp[World.cell?,Rl]
  have v3:w3.frozen? ⟨g+1+1,3,none⟩=false:=by simp[World.frozen?,Rl]
  clear dG hB2'
  go_upto_region 5 with(fail)
  clear p0 p1 p2 p3 r0 r1 r2 r3 u0 u1 u2 u3 v0 v1 v2 v3;have x1:Tree.Boxed ((((w3.setCell ⟨g+1,0,none⟩ (ι γ 17)).setCell ⟨g+1,1,none⟩ (σ ⟨#[]⟩)).setCell ⟨g+1,2,none⟩ (σ ⟨#[]⟩)).setCell ⟨g+1,3,none⟩ (ς none 0 0)) (g+1) 17 ⟨#[]⟩ ⟨#[]⟩ (ς none 0 0):=X3 (show Tree.Boxed w3 (g+1) 17 ⟨#[]⟩ ⟨#[]⟩ (ς (some ⟨g,0,none⟩) N N)from PT);have x2:Tree.Boxed ((((w3.setCell ⟨g+1,0,none⟩ (ι γ 17)).setCell ⟨g+1,1,none⟩ (σ ⟨#[]⟩)).setCell ⟨g+1,2,none⟩ (σ ⟨#[]⟩)).setCell ⟨g+1,3,none⟩ (ς none 0 0)) (g+1+1) 17 ⟨#[]⟩ ⟨#[]⟩ (ς none 0 0):=(Vr w3 (g+1) (g+1+1) _ _ _ _ ω).trans Rl;have y2:Tree.Boxed ((((((((w3.setCell ⟨g+1,0,none⟩ (ι γ 17)).setCell ⟨g+1,1,none⟩ (σ ⟨#[]⟩)).setCell ⟨g+1,2,none⟩ (σ ⟨#[]⟩)).setCell ⟨g+1,3,none⟩ (ς none 0 0)).setCell ⟨g+1+1,0,none⟩ (ι γ 17)).setCell ⟨g+1+1,1,none⟩ (σ ⟨#[]⟩)).setCell ⟨g+1+1,2,none⟩ (σ ⟨#[]⟩)).setCell ⟨g+1+1,3,none⟩ (ς (some ⟨g,0,none⟩) N N)) (g+1+1) 17 ⟨#[]⟩ ⟨#[]⟩ (ς (some ⟨g,0,none⟩) N N):=X3 x2;have y1:Tree.Boxed ((((((((w3.setCell ⟨g+1,0,none⟩ (ι γ 17)).setCell ⟨g+1,1,none⟩ (σ ⟨#[]⟩)).setCell ⟨g+1,2,none⟩ (σ ⟨#[]⟩)).setCell ⟨g+1,3,none⟩ (ς none 0 0)).setCell ⟨g+1+1,0,none⟩ (ι γ 17)).setCell ⟨g+1+1,1,none⟩ (σ ⟨#[]⟩)).setCell ⟨g+1+1,2,none⟩ (σ ⟨#[]⟩)).setCell ⟨g+1+1,3,none⟩ (ς (some ⟨g,0,none⟩) N N)) (g+1) 17 ⟨#[]⟩ ⟨#[]⟩ (ς none 0 0):=(Vr _ (g+1+1) (g+1) _ _ _ _ ω).trans x1;have ZT:Below (g+1) w3 ((((((((w3.setCell ⟨g+1,0,none⟩ (ι γ 17)).setCell ⟨g+1,1,none⟩ (σ ⟨#[]⟩)).setCell ⟨g+1,2,none⟩ (σ ⟨#[]⟩)).setCell ⟨g+1,3,none⟩ (ς none 0 0)).setCell ⟨g+1+1,0,none⟩ (ι γ 17)).setCell ⟨g+1+1,1,none⟩ (σ ⟨#[]⟩)).setCell ⟨g+1+1,2,none⟩ (σ ⟨#[]⟩)).setCell ⟨g+1+1,3,none⟩ (ς (some ⟨g,0,none⟩) N N)):=(Ji w3 (g+1) _ _ _ _).trans ((Ji _ (g+1+1) _ _ _ _).mono ω);have hfz:=HF.out.below ZT (Nat.le_refl _);obtain⟨wz,hwz⟩:∃wz,((((((((w3.setCell ⟨g+1,0,none⟩ (ι γ 17)).setCell ⟨g+1,1,none⟩ (σ ⟨#[]⟩)).setCell ⟨g+1,2,none⟩ (σ ⟨#[]⟩)).setCell ⟨g+1,3,none⟩ (ς none 0 0)).setCell ⟨g+1+1,0,none⟩ (ι γ 17)).setCell ⟨g+1+1,1,none⟩ (σ ⟨#[]⟩)).setCell ⟨g+1+1,2,none⟩ (σ ⟨#[]⟩)).setCell ⟨g+1+1,3,none⟩ (ς (some ⟨g,0,none⟩) N N))=wz:=⟨_,rfl⟩;rw[hwz]at y1 y2 ZT hfz⊢;have zx:=QA (HW.out.trans (ZT.mono (by have:=HG.out;omega)));obtain⟨p0,p1,p2,p3⟩:=y1.cells;obtain⟨r0,r1,r2,r3⟩:=y2.cells;replace hfz:=hfz.up (show g+1≤wz.heap.size by have:=HZ3.out;have:=HG.out;have:=ZT.size;omega);clear x1 x2 y1 y2 ZT PT Rl hwz;have ho:=Qy 17 ⟨#[]⟩ ⟨#[]⟩ none 0 0 .nil 17 ⟨#[]⟩ ⟨#[]⟩ (some ⟨g,0,none⟩) N N (zs N) wz (HP.out.on zx.out) (HT.out.below zx.out HT.out.pos) (V6 _ _) hfz δ (by rw[Xt];omega) (fun _=>Qmy) (fun _=>Qqa ω) ⟨δ,δ,trivial,δ,δ,iG N,trivial⟩ ⟨by unfold Hg;omega,trivial,by unfold Hg;omega,iF N,trivial⟩;obtain⟨er,her⟩:∃er:Int,(if 20000≤(.nil:F).size∨20000≤((zs N):F).size then 2 else 0)=er:=⟨_,rfl⟩;obtain⟨mt,RM⟩:=Mem.QD (Rz 17 ⟨#[]⟩ ⟨#[]⟩ .nil 17 ⟨#[]⟩ ⟨#[]⟩ (zs N));rw[her,RM]at ho;have hR:(20000≤N→er=2∧mt.length=0)∧(N<20000→er=0∧mt.length=1):=by
   constructor
   ·intro h;have h2:20000≤(.nil:F).size∨20000≤((zs N):F).size:=(.inr (by rw[Xt];exact h));exact⟨by rw[←her,if_pos h2],by rw[←RM,Qm1 h2];rfl⟩
   ·intro h;have h1:(.nil:F).size<20000:=δ
    have h2:((zs N):F).size<20000:=by rw[Xt];exact h
    refine⟨by rw[←her,if_neg ω],?_⟩;rw[←RM];exact Qiq (Qw8 h1 h2) (.inl rfl)
  have HO:=QA ho;have HR:=QA hR;clear ho her RM hR hfz;go_wp2_with fail;refine HO.out.mono ?_;rintro e w6 ⟨VH,v6,rfl,Fu⟩;obtain⟨Al,Cl,rfl⟩:=Fu.slice;obtain⟨M,hM⟩:=Mem.QD (mt.length);have hR:=HR.out;rw[hM]at hR⊢;have GG:=VO zx VH;have HK:=QA (Uu w6 (HP.out.on GG.out) (HT.out.below GG.out HT.out.pos));clear VH Fu HO;by_cases hbig:20000≤N
  ·obtain⟨rfl,rfl⟩:=hR.1 hbig;have RQ:(20000:Int)<(N:Int)+1:=ω
   exact c36
  ·obtain⟨rfl,rfl⟩:=hR.2 ω;have RQ:¬(20000:Int)<(N:Int)+1:=ω
   exact c36
