import Derived.Test.YtihgojcfpnhelaaGreatDoorQj
set_option maxRecDepth 100000
set_option maxHeartbeats 4000000
set_option linter.all false
namespace Go.Proofs.YtihgojcfpnhelaaGreatDoor
open Value renaming slice->B,tuple->zp,pointer->zK
open Obj renaming cells->zM
open Ending renaming returned->zP
open Option renaming some->A
open Or renaming inl->zR,inr->zZ
open Go renaming World->zW,Value->zV,Calls->zC,Addr->zD
open Go.RowKit Go.Proofs.Tryz
open List renaming length→G
section
attribute [local go_sem] aW
def eM {w:zW} {base z n:Nat} {e:TypeId} {v:zV} {D:List zV} (h:w.ownsRow base e z v n D):∃ b C,v=B b n C:=by
 rcases h.2 with ⟨rfl,a⟩|⟨g,c,d,rfl,_⟩
 .subst a;exact ⟨_,_,rfl⟩
 .exact ⟨_,_,rfl⟩
def lI.own {w:zW} {base:Nat} {v:zV} {fs:List (Nat × Fd)} (h:w.ownsRow base 220 1 v (G fs) (cA fs)):lI w v fs:=by
 have e:=h.lt;rcases h.2 with ⟨rfl,c⟩|⟨g,a,b,rfl,f,d,_⟩
 .obtain rfl:fs=[]:=oD c;exact ⟨none,0,rfl,λ_=>rfl,λj C=>by simp at C⟩
 .refine ⟨A (yh g),a,rfl,(λh=>by cases h),λj C=>⟨g,0,rfl,(cz.1 d).1,?_⟩⟩;have:=h.cellAt j (by omega);rw [cS];simpa [cA,C] using this
def wl:(prog.info? 323).map (λi=>(i.zero,i.size,i.bytes))=A (A (zK none),1,8):=by kernel_rfl
def Lm {S:Nat->Prop} (a:Option zD) (c at_ D:Nat) (fs:List (Nat × Fd)) (w:zW) (hs:Sh w S a fs) (hl:G fs<=100) (bj:D<G fs) (dV:at_<=D) (hc:G fs<=c) (x:∀ i (h:i<G fs),i<at_->(fs[i]).1≠(fs[at_]'(by omega)).1)
  (u:aC (fs[D]).2.nm (fs[at_]'(by omega)).2.p=true) (hn:∀ i (h:i<G fs),D<i->aC (fs[i]).2.nm (fs[at_]'(by omega)).2.p=false) :
  zC prog 215 #[B a (G fs) c,zK (A (yh ((fs[at_]'(by omega)).1)))] w (IV fs at_ D (dB (fs[at_]'(by omega)) ((fs.drop at_).take (D+1 - at_)) [] [] []) w):=by
 have w':at_<G fs:=(by omega);have HI:=I (λW (C:zB w W)=>qI a c (fs[at_]).1 at_ fs W (hs.next C) (by omega) w' rfl x);have HX:=I (λW (C:zB w W)=>(FH a c (fs[at_]).1 (fs[at_]).2 fs W (hs.next C) (by omega) ((hs.next C).bX _ (bt w'))).m (R':=λe j=>e=zP (J D)/\zB W j) (by
  rintro e j ⟨ei,rfl,hz,ad⟩;refine ⟨?_,ad⟩;rcases hz with ⟨_,h⟩|⟨hu,hj,rfl,Z,y⟩
  .rw [h D bj] at u;cases u
  .rcases Nat.lt_trichotomy hu D with h|h|h
   .have:=y D bj h;rw [u] at this;cases this
   .rw [h]
   .rw [hn hu hj h] at Z;cases Z))
 obtain ⟨i1,gi,qh,qi,pD⟩:=fe oX;obtain ⟨i2,li,cu,cw,cx⟩:=fe wl;obtain ⟨d,L,rfl,dZ,_⟩:=hs.ptr at_ w';have a5:=hs.bX _ (bt w');have z1:¬ (D:Int)<(at_:Int):=(by omega);have z2:(at_:Int)<=(D:Int)+1:=(by omega);have z3:(D:Int)+1<=(c:Int):=(by omega);have z4:(0:Int)<=(at_:Int):=(by omega);have cs:IntKind.i64.wrap ((D:Int)+1)=(D:Int)+1:=(by rw [IntKind.wrap_i64];omega);have Y:=I hs;have AJ:=I a5;clear hs x u hn a5;generalize fs[at_]=f at *;have xE:((fs.drop at_).take (D+1 - at_)).length=D+1 - at_:=(by simp;omega);have ax:∀ k (h:k<((fs.drop at_).take (D+1 - at_)).length),((fs.drop at_).take (D+1 - at_))[k]=fs[at_+k]'(by omega):=λk h=>(by simp);have Tq:=I (show ∀ st,st∈(fs.drop at_).take (D+1 - at_)->fB w S st.1 st.2 from λst hx=>Y.o.bX st (lD (lS hx)));have bN:=I (show ∀ k (h:k<((fs.drop at_).take (D+1 - at_)).length),d<w.heap.size/\w.cell? (X d (L+at_+k))=A (zK (A (yh ((((fs.drop at_).take (D+1 - at_))[k]).1)))) from λk h=>by
  obtain ⟨g',o',Z,y,h3⟩:=Y.o.ptr (at_+k) (by omega);simp at Z;obtain ⟨rfl,rfl⟩:=Z;refine ⟨Y.o.still _ y,?_⟩;rw [ax k h,oJ];exact h3)
 clear ax;generalize cl:(fs.drop at_).take (D+1 - at_)=U at *;go_in;go_wp2_with (first|(go_at_call 165;refine (HI.o _ (aM _ _)).m ?_;rintro e w1 ⟨rfl,rfl⟩)|(go_at_call 233;refine mo (HX.o _ (aM _ _)) ?_;rintro e w1 ⟨rfl,a9⟩));have HB:=I a9;clear a9 HI HX;apply I;go_wp2_with fail;have a3:decide (D<at_)=false:=(by simp;omega);rw [a3];clear a3;go_loopg [8,9,10,30] (G U) (λgk s8 s9 cy c0 wr=>∃ (k:Nat) (H F:List (Nat × Fd)) (R:List (Nat × List (Nat × Fd))),k<=G U/\G U<=k+gk/\c0=J k/\Hid (QD S w wr f U s8 s9 cy k H F R))
 case atStart=>exact ⟨0,[],[],[],bE _,by omega,rfl,⟨rfl,eW _ _ _ _,eW _ _ _ _,eW _ _ _ _,λq h=>by simp [Value.ownBlock] at h,λq h=>by simp [Value.ownBlock] at h,λq h=>by simp [Value.ownBlock] at h,λct hl=>by simp at hl,(by simp),λct hl=>by simp at hl,λst hx=>by simp at hx,HB.o⟩⟩
 case round=>
  obtain ⟨k,H,F,R,hk,xA,rfl,E⟩:=hrel;by_cases gs:k<G U
  .generalize PS:D+1 - at_=nn at *;generalize ck:c - at_=cc at *;have cm:(k:Int)<(nn:Int):=(by omega);have c2:nn<=100:=(by omega);clear PS ck cl cs z1 z2 z3 z4;obtain ⟨V,v,rfl⟩:=eM E.o.o6;obtain ⟨M,O,rfl⟩:=eM E.o.o7;obtain ⟨a8,c8,rfl⟩:=eM E.o.o8;have b1:G H<=100:=(by have:=E.o.cnt;omega);have b2:G F<=100:=(by have:=E.o.cnt;omega);have b3:G R<=100:=(by have:=E.o.cnt;omega);have ak:=E.o.bS.size;obtain ⟨bX,au⟩:=bN.o k gs;have bO:=(E.o.bS.cell (p:=X d (L+at_+k)) bX).t au;have ln:=Tq.o _ (bt gs);have am:=I (show ∃ g,U[k]=g from ⟨_,rfl⟩);obtain ⟨g,tA⟩:=am.o;rw [tA] at ln bO;have h2:=I tA;have Jq:=I (QB (S:=S) (P:=DF (B V (G H) v) (B M (G F) O) (B a8 (G R) c8)) g f R a8 c8 wr (λq o=>bG (Y.o.still q o) ak) (ln.next Y.o.still E.o.bS) (AJ.o.next Y.o.still E.o.bS) (by omega) (λhu hj=>by
    obtain ⟨l1,l2⟩:=E.o.lk _ (bt hj);refine ⟨l1,λst hx=>(l2 st hx).next Y.o.still E.o.bS,?_⟩;obtain ⟨gb,cn,hv,ed,b0⟩:=E.o.o8.form (by omega);simp at hv;refine ⟨gb,hv.1,b0,?_⟩;have h8:=E.o.o8;rw [hv.1] at h8;have:=h8.cellAt hu (by omega);simpa [xu,hj] using this))
   clear au am tA;cases o:dW g f (R.map Prod.snd) with
   | none=>
    have Q0:=I (Jq.o.m (R':=λe j=>e=zP (zK none)/\zB wr j) (by
     rintro e j ⟨C,h⟩;rw [Ax,o] at h;exact ⟨h,C⟩))
    have w4:=I (λT (C:zB wr T)=>aZ E.o.o6 C);have ao:=I (λw1 T v' Z y h3 h4=>E.o.stay (w1:=w1) (w2:=T) (v':=v') gs h2.o o Z y h3 h4);clear o Jq E ln;go_wp2_with (go_at_call 234;refine mo Q0.o ?_;rintro e T ⟨rfl,s⟩);replace w4:=I (w4.o T s);have n:=I s;have c6:=s.size;clear s Q0;apply I;go_wp2_with (at_builtin;refine rq _ rfl (.tmp 49) (.tmp 51) 101 rfl w.heap.size 220 i1 (zK none) 1 8 underlying101 gi qh qi pD rfl (by decide) (B V (G H) v) (G H) (cA H) rfl (w4.o.alloc _) (yh T.heap.size) 1 1 [zK (A (yh g.1))] rfl rfl (λq mv o=>bC T [zK (A (yh g.1))] 220 q mv o) (λmv x=>by simp at x;subst x;rfl) (by omega) (by unfold maxLen;omega) (by omega) (by simp;omega) (T.heap.size+1) (by simp) ?_;intro q6 cn K gM w2 ay c3;apply Hid.o);have ac:=I (ao.o (T.alloc (zM #[zK (A (yh g.1))] 220)) K (zS q6 (G H+1) cn) (n.o.alloc c6 _) w2 gM (ay.imp (λh=>h.symm) λh=>⟨q6,rfl,by omega⟩));clear gM w2 ay ao n w4;apply I;go_wp2;go_roundg (G U - (k+1))
    case measure=>omega
    case rel=>exact ⟨k+1,_,_,_,by omega,by omega,by go_num,ac⟩
   | some ch=>
    have Q0:=I (Jq.o.m (R':=λe j=>∃ b,e=zP (zJ b)/\Hid (eZ j (λq=>DF (B V (G H) v) (B M (G F) O) (B a8 (G R) c8) q\/wr.heap.size<=q) b ch)/\zB wr j) (by
     rintro e j ⟨C,h⟩;rw [Ax,o] at h;obtain ⟨b,Z,y,h3⟩:=h;exact ⟨b,Z,h3,C⟩))
    have c5:=DD o E.o.len;have bS:G ch<=500:=(by omega);have w3:=I E.o.bS;obtain ⟨_,_,_,_,fa,fl,fc,af,bb⟩:=AJ.o;have JS:=(cz.1 af).1;have JU:=I af;have HM:=I (λW (hW:zB w W)=>jh g.2.nm f.2.p fa fl fc W (bb.next λq o=>hW.block q (Y.o.still q o)) (λq o=>bG (Y.o.still q o) hW.size));obtain ⟨_,_,_,_,ds,dF,du,ag,_⟩:=ln;have aJ:=(cz.1 ag).1;have an:=I ag;clear Jq af bb ag;cases u:aC g.2.nm f.2.p with
    | true=>
     have bn:=I (show dB f U [] [] []=.dZ ch by
      rw [E.o.eq,jL gs,h2.o];simp only [dB,o,u];simp)
     rw [u] at HM;clear o u E;go_wp2_with (go_at_call 234;refine mo Q0.o ?_;rintro e T ⟨b,rfl,Q6,s⟩);have n:=I (w3.o.t (s.m ak));obtain ⟨⟨k0,k1,k2,k3,k4,k5,k6⟩,_,_⟩:=fP ((n.o.block f.1 JS).t JU.o);obtain ⟨⟨j0,_⟩,_,_⟩:=fP ((n.o.block g.1 aJ).t an.o);have c6:=n.o.size;have HC:=I (HM.o T.drew n.o.drew);clear s Q0;apply I;go_wp2_with fail
     go_region_with (first|(go_at_call 195;refine HC.o.m ?_;rintro e K ⟨rfl,t⟩;have B3:=I t;clear t))
     all_goals have Ty:=I (Qz b ch K (Q6.o.next ((aM _ _).drew.t B3.o)) bS)
     all_goals go_wp2_with (go_at_call 235;refine mo Ty.o ?_;rintro e l ⟨c1,rfl,gM,ba⟩)
     all_goals obtain ⟨av,cv,rfl⟩:=eM gM
     all_goals have QV:=I (show IV fs at_ D (dB f U [] [] []) w (zP (zp #[zN,B av (G ch) cv])) l by
      rw [bn.o];have rG:zB w K:=n.o.drew.t (B3.o.m c6);exact ⟨rG.t (ba.m rG.size),_,rfl,dS gM rG.size⟩)
     all_goals clear gM ba Ty
     all_goals apply I
     all_goals go_wp2
     all_goals refine aK (v:=zp #[zN,B av (G ch) cv]) (by simp [results,results215,go_sem]) (by simp [go_sem]) ?_
     all_goals exact QV.o
    | false=>
     have a4:=I (λT (C:zB wr T)=>aZ E.o.o7 C);have aa:=I (λT l (C:zB wr T) (hg:T.grownBy l (B M (G F) O).ownBlock)=>uD (w':=l) E.o.o8 λq o=>(hg.block q (bG (E.o.o8.lt q o).2 C.size) (λe=>E.o.d78 q e.symm o)).t (C.block q (E.o.o8.lt q o).2));have bu:=I (λw1 T K l v7 v8 b Z y h3 h4 h5 h6 h7 h8 h9=>E.o.move (w1:=w1) (w2:=T) (w3:=K) (w4:=l) (v7:=v7) (v8:=v8) (b:=b) gs h2.o o u Tq.o AJ.o Z y h3 h4 h5 h6 h7 h8 h9);rw [u] at HM;clear o u E;go_wp2_with (go_at_call 234;refine mo Q0.o ?_;rintro e T ⟨b,rfl,Q6,s⟩);have n:=I (w3.o.t (s.m ak));have cd:=I s;obtain ⟨⟨k0,k1,k2,k3,k4,k5,k6⟩,_,_⟩:=fP ((n.o.block f.1 JS).t JU.o);obtain ⟨⟨j0,_⟩,_,_⟩:=fP ((n.o.block g.1 aJ).t an.o);have c6:=n.o.size;have ce:=s.size;have HC:=I (HM.o T.drew n.o.drew);clear s Q0;apply I;go_wp2_with fail
     go_region_with (first|(go_at_call 195;refine HC.o.m ?_;rintro e K ⟨rfl,t⟩;have B3:=I t;clear t))
     all_goals have Jr:=I (show zB wr K from cd.o.drew.t (B3.o.m ce))
     all_goals have cp:=Jr.o.size
     all_goals replace a4:=I (a4.o K Jr.o)
     all_goals have cf:=I (Q6.o.next ((aM _ _).drew.t B3.o))
     all_goals clear Q6
     all_goals go_wp2_with (at_builtin;refine rq _ rfl (.tmp 38) (.tmp 40) 101 rfl w.heap.size 220 i1 (zK none) 1 8 underlying101 gi qh qi pD rfl (by decide) (B M (G F) O) (G F) (cA F) rfl (a4.o.alloc _) (yh K.heap.size) 1 1 [zK (A (yh g.1))] rfl rfl (λq mv o=>bC K [zK (A (yh g.1))] 220 q mv o) (λmv x=>by simp at x;subst x;rfl) (by omega) (by unfold maxLen;omega) (by omega) (by simp;omega) (K.heap.size+1) (by simp) ?_;intro q7 cn l gM w2 a0 c9;apply Hid.o)
     all_goals have a1:=I (Jr.o.alloc cp (zM #[zK (A (yh g.1))] 220))
     all_goals replace aa:=I (aa.o _ _ a1.o w2)
     all_goals have ee:K.heap.size+1<=l.heap.size:=by have:=w2.size;simpa using this
     all_goals have bs:=I w2
     all_goals have Gc:=I gM
     all_goals have bl:=I a0
     all_goals clear gM w2 a0
     all_goals apply I
     all_goals go_wp2_with (at_builtin;refine rq _ rfl (.tmp 42) (.tmp 44) 322 rfl w.heap.size 323 i2 (zK none) 1 8 underlying322 li cu cw cx rfl (by decide) (B a8 (G R) c8) (G R) (xu R) rfl (aa.o.alloc _) (yh l.heap.size) 1 1 [zJ b] rfl rfl (λq mv o=>bC l [zJ b] 323 q mv o) (λmv x=>by simp at x;subst x;rfl) (by omega) (by unfold maxLen;omega) (by omega) (by simp;omega) (l.heap.size+1) (by simp) ?_;intro q8 ci w5 ar al a2 dn;apply Hid.o)
     all_goals have ac:=I (bu.o (K.alloc (zM #[zK (A (yh g.1))] 220)) l (l.alloc (zM #[zJ b] 323)) w5 (zS q7 (G F+1) cn) (zS q8 (G R+1) ci) b a1.o (cf.o.next (bZ _)) bs.o Gc.o (bl.o.imp (λh=>h.symm) λh=>⟨q7,rfl,by simp;omega⟩) (bZ _) al ar (a2.imp (λh=>h.symm) λh=>⟨q8,rfl,by omega⟩))
     all_goals clear ar al a2
     all_goals apply I
     all_goals go_wp2
     all_goals go_roundg (G U - (k+1))
     all_goals try (case measure=>omega)
     all_goals exact ⟨k+1,_,_,_,by omega,by omega,by go_num,ac⟩
  .obtain rfl:k=G U:=(by omega);obtain ⟨V,v,rfl⟩:=eM E.o.o6;obtain ⟨M,O,rfl⟩:=eM E.o.o7;have cm:¬ (((G U):Nat):Int)<((D+1 - at_:Nat):Int):=(by omega);have AW:=I (show dB f U [] [] []=.ok H F by
    rw [E.o.eq,nY (aG _)];rfl)
   have br:=I E.o.cnt;have w3:=I E.o.bS;have bv:=I (lI.own E.o.o6);have bw:=I (lI.own E.o.o7);have z5:(at_:Int)<=(c:Int):=(by omega);have z6:(D:Int)+1<=(G fs:Int):=(by omega);have z7:(G fs:Int)<=(c:Int):=(by omega);have z8:D+1<=c:=(by omega);have z9:D+1<=G fs:=(by omega);have ek:(D:Int)<100:=(by omega);have QT:=I (show ∀ (c4:Nat) (z:zD),lI wr (B (A z) (G fs - (D+1)) c4) (fs.drop (D+1))->zC prog 164 #[zS wr.heap.size 4 4] (wr.alloc (zM #[B (A (X d L)) at_ c,B V (G H) v,B M (G F) O,B (A z) (G fs - (D+1)) c4] 101)).drew λe j=>∃ N r m,e=zP (B N r m)/\j.ownsRow w.heap.size 220 1 (B N r m) (b9 [fs.take at_,H,F,fs.drop (D+1)]).length (cA (b9 [fs.take at_,H,F,fs.drop (D+1)]))/\zB w j from λc4 z h4=>by
    have Q5:=Y.o.next w3.o;have Q4:zB wr (wr.alloc (zM #[B (A (X d L)) at_ c,B V (G H) v,B M (G F) O,B (A z) (G fs - (D+1)) c4] 101)).drew:=(bZ _).drew;have co:(wr.alloc (zM #[B (A (X d L)) at_ c,B V (G H) v,B M (G F) O,B (A z) (G fs - (D+1)) c4] 101)).drew.heap[wr.heap.size]?=A (zM #[B (A (X d L)) at_ c,B V (G H) v,B M (G F) O,B (A z) (G fs - (D+1)) c4] 101 (0,0)):=bL wr _;have JY:(wr.alloc (zM #[B (A (X d L)) at_ c,B V (G H) v,B M (G F) O,B (A z) (G fs - (D+1)) c4] 101)).drew.heap.size=wr.heap.size+1:=(by simp);generalize (wr.alloc (zM #[B (A (X d L)) at_ c,B V (G H) v,B M (G F) O,B (A z) (G fs - (D+1)) c4] 101)).drew=W at *;have cr:=Q5.next Q4;obtain ⟨⟨r0,r1,r2,r3⟩,_,_⟩:=aX co;have p0:lI W (B (A (X d L)) at_ c) (fs.take at_):=by
     have:=cr.part 0 at_ c (by omega);simpa using this
    have p1:=bv.o.next Q4;have p2:=bw.o.next Q4;have p3:=h4.next Q4;refine (rK [fs.take at_,H,F,fs.drop (D+1)] [B (A (X d L)) at_ c,B V (G H) v,B M (G F) O,B (A z) (G fs - (D+1)) c4] wr.heap.size 4 W rfl (by omega) (λi hi=>?_) ?_ (by simp)).m ?_
    .rcases (show i=0\/i=1\/i=2\/i=3 by simp at hi;omega) with rfl|rfl|rfl|rfl
     .exact ⟨r0,p0⟩
     .exact ⟨r1,p1⟩
     .exact ⟨r2,p2⟩
     .exact ⟨r3,p3⟩
    .have:=br.o;simp [b9];omega
    .rintro bk j ⟨c1,rfl,ho,ad⟩;obtain ⟨N,r,m,rfl⟩:=b7 ho;exact ⟨N,r,m,rfl,dS ho (bf w3.o.size Q4.size),w3.o.t ((Q4.t (ad.m Q4.size)).m w3.o.size)⟩)
   have Q5:=Y.o.next w3.o;clear E;have QV:=I (show ∀ N r m K,K.ownsRow w.heap.size 220 1 (B N r m) (b9 [fs.take at_,H,F,fs.drop (D+1)]).length (cA (b9 [fs.take at_,H,F,fs.drop (D+1)]))->zB w K->IV fs at_ D (dB f U [] [] []) w (zP (zp #[B N r m,zN])) K from λN r m K Z y=>by
    rw [AW.o];exact ⟨y,_,rfl,Z⟩)
   by_cases y3:c=D+1
   .have SU:=I (QT.o 0 (X d L) (by
     have e1:G fs - (D+1)=0:=(by omega);rw [e1,nY (by omega)];exact lI.empty _ _ _))
    subst y3;rw [show (G fs) - (D+1)=0 by omega] at SU;clear QT Q5;go_wp2_with fail
    go_region_with (first|(go_at_call 164;refine SU.o.m ?_;rintro bk K ⟨N,r,m,rfl,ho,t⟩;have C1:=I ho;have C2:=I t;clear ho t))
    all_goals go_wp2
    all_goals refine aK (v:=zp #[B N r m,zN]) (by simp [results,results215,go_sem]) (by simp [go_sem]) ?_
    all_goals exact QV.o _ _ _ _ C1.o C2.o
   .have SU:=I (QT.o (c - (D+1)) (X d (L+(D+1))) (by
     have:=Q5.part (D+1) (G fs - (D+1)) (c - (D+1)) (by omega);rw [qy (by simp)] at this;exact this))
    clear QT Q5;go_wp2_with fail
    go_region_with (first|(go_at_call 164;refine SU.o.m ?_;rintro bk K ⟨N,r,m,rfl,ho,t⟩;have C1:=I ho;have C2:=I t;clear ho t))
    all_goals go_wp2
    all_goals refine aK (v:=zp #[B N r m,zN]) (by simp [results,results215,go_sem]) (by simp [go_sem]) ?_
    all_goals exact QV.o _ _ _ _ C1.o C2.o
end
def yQ (S:Nat->Prop) (w w':zW) (a:Option zD) (c:Nat) (gs:List (Nat × Fd)):Prop:=
 ∃ C:Nat->Prop,(∀ q,S q->C q)/\(∀ q,C q->S q\/w.heap.size<=q)/\Sh w' C a gs/\G gs<=c
def Sh.nj {w W:zW} {S:Nat->Prop} {a:Option zD} {fs gs:List (Nat × Fd)} {v:zV} (hs:Sh w S a fs) (k:zB w W) (n:W.ownsRow w.heap.size 220 1 v (G gs) (cA gs)) (c:∀ x,x∈gs->x∈fs) (i:gs≠[]) :
  ∃ l m,v=B l (G gs) m/\yQ S w W l m gs:=by
 rcases n.2 with ⟨_,z⟩|⟨g,E,F,rfl,C,u,D,_⟩
 .exact absurd (oD z) i
 .have d:=(cz.1 u).1;refine ⟨_,_,rfl,λq=>S q\/q=g,λq b=>zR b,λq b=>b.imp id λe=>by omega,⟨?_,?_,?_⟩,by simpa using D⟩
  .rintro q (b|rfl)
   .exact bG (hs.still q b) k.size
   .exact d
  .intro j s;refine ⟨g,0,rfl,zZ rfl,?_⟩;have:=n.cellAt j (by omega);rw [cS];simpa [cA,s] using this
  .intro x t;have o:=hs.bX x (c x t);have y:=o.lt;have f:=o.next hs.still k;obtain ⟨f1,f2,f3,f4,r,p,c1,f5,f6⟩:=f;refine ⟨?_,f2,f3,f4,r,p,c1,f5,f6.wide λq b=>zR b⟩;rintro (h|h)
   .exact f1 h
   .omega
def qg (S:Nat->Prop) (r:Ek) (w:zW) (e:Ending) (w':zW):Prop:=
 zB w w'/\match r with
 | .ok C=>∃ b a,e=zP (zp #[B b (G C) a,zN])/\yQ S w w' b a C
 | .dZ c=>∃ v,e=zP (zp #[zN,v])/\w'.ownsRow w.heap.size 220 1 v (G c) (cA c)
def wZ {fs st mv:List (Nat × Fd)} {at_ l:Nat} (h:∀ x,x∈st++mv->x∈fs):∀ x,x∈b9 [fs.take at_,st,mv,fs.drop l]->x∈fs:=by
 intro x C;simp [b9] at C;rcases C with C|C|C|C
 .exact lS C
 .exact h x (by simp [C])
 .exact h x (by simp [C])
 .exact lD C
def Qq {S:Nat->Prop} (a:Option zD) (c at_:Nat) (fs:List (Nat × Fd)) (f:Nat × Fd) (w:zW) (hs:Sh w S a fs) (u:G fs<=100) (g:at_<G fs) (E:fs[at_]=f) (r:G fs<=c) (m:∀ i (h:i<G fs),i<at_->(fs[i]).1≠f.1) :
  zC prog 215 #[B a (G fs) c,zK (A (yh f.1))] w (qg S (jW fs at_ f) w):=by
 subst E;have L:∀ H,zB w H->qg S (.ok fs) w (zP (zp #[B a (G fs) c,zN])) H:=λH b=>⟨b,a,c,rfl,S,λq h=>h,λq h=>zR h,hs.next b,r⟩;unfold jW;cases s:kT (fs[at_]).2.p fs with
 | none=>
  refine (Aw a c at_ fs w hs (by omega) g m λi p _=>sg s i p).m ?_;rintro e H ⟨rfl,b⟩;exact L H b
 | some l=>
  obtain ⟨N,C,t⟩:=si s;simp only;split
  .rename_i n;refine (Aw a c at_ fs w hs (by omega) g m λi p h=>t i p (by omega)).m ?_;rintro e H ⟨rfl,b⟩;exact L H b
  .rename_i n;refine (Lm a c at_ l fs w hs u N (by omega) r m C t).m ?_;rintro e H ⟨b,h⟩;cases k:dB fs[at_] ((fs.drop at_).take (l+1 - at_)) [] [] [] with
   | ok M K=>
    rw [k] at h;obtain ⟨v,rfl,D⟩:=h;have d:=wZ (at_:=at_) (l:=l+1) (fs:=fs) (st:=M) (mv:=K) λx y=>by
     have:=qT _ _ _ _ _ _ _ k x y;simp at this;exact lD (lS this)
    have o:b9 [fs.take at_,M,K,fs.drop (l+1)]≠[]:=by
     intro e;have j:=eL List.length e;have:=yF _ _ _ _ _ _ _ k;simp only [b9,b6,nZ,sF,mG] at j this;omega
    obtain ⟨z,O,rfl,P⟩:=hs.nj b D d o;exact ⟨b,z,O,rfl,P⟩
   | dZ F=>
    rw [k] at h;exact ⟨b,h⟩
def nt (fs:List (Nat × Fd)) (at_ j:Nat) (b:at_<G fs) (f:j<at_):(eK fs at_ j).length=G fs/\(∀ x,x∈eK fs at_ j->x∈fs)/\(∀ (h:j<(eK fs at_ j).length),(eK fs at_ j)[j]=fs[at_])/\∀ i (h:i<(eK fs at_ j).length) (d:i<G fs),i<j->(eK fs at_ j)[i]=fs[i]:=by
 have a:(eK fs at_ j).length=G fs:=by
  simp only [eK,b9,b6,nZ,sF,mG];omega
 refine ⟨a,?_,?_,?_⟩
 .intro x C;simp only [eK,b9,cG,jA,iK] at C;rcases C with C|C|C|C
  .exact lS C
  .exact lD (lS C)
  .exact lD (lS C)
  .exact lD C
 .intro h;have e:(eK fs at_ j)[j]?=A fs[at_]:=by
   simp only [eK,b9];rw [qx (by simp;omega),sy (by simp;omega)];simp;rw [show j - min j (G fs)=0 by omega];simp [b]
  rw [cU h] at e;exact dp e
 .intro i h d c;have e:(eK fs at_ j)[i]?=A fs[i]:=by
   simp only [eK,b9];rw [sy (by simp;omega)];simp [c,d]
  rw [cU h] at e;exact dp e
def qg.after {S:Nat->Prop} {S1:Nat->Prop} {r:Ek} {w w1:zW} {e:Ending} {w':zW} (h:qg S1 r w1 e w') (a:zB w w1) (f:∀ q,S q->S1 q) (i:∀ q,S1 q->S q\/w.heap.size<=q):qg S r w e w':=by
 obtain ⟨c,h⟩:=h;refine ⟨a.t (c.m a.size),?_⟩;cases r with
 | ok H=>
  obtain ⟨j,g,b,C,D,E,F⟩:=h;exact ⟨j,g,b,C,λq d=>D q (f q d),λq d=>(E q d).elim (λh=>i q h) λh=>zZ (bf a.size h),F⟩
 | dZ l=>
  obtain ⟨v,b,k⟩:=h;exact ⟨v,b,dS k a.size⟩
def Cx {S:Nat->Prop} (a:Option zD) (c at_:Nat) (fs:List (Nat × Fd)) (f:Nat × Fd) (w:zW) (hs:Sh w S a fs) (P:G fs<=100) (g:at_<G fs) (s:fs[at_]=f) (Q4:G fs<=c) (n:∀ i (h:i<G fs),i<at_->(fs[i]).1≠f.1) :
  zC prog 190 #[B a (G fs) c,zK (A (yh f.1))] w (qg S (dL fs at_ f) w):=by
 have L:zC prog 216 #[B a (G fs) c,zK (A (yh f.1))] w λe K=>∃ b d,e=zP (B b (bY fs at_ f).1.length d)/\yQ S w K b d (bY fs at_ f).1/\zB w K:=by
  subst s;unfold bY;cases hF:lJ (fs[at_]).2.nm (fs.take at_) with
  | none=>
   refine (Qr a c at_ fs w hs (by omega) g n (λi u h=>?_) Q4).m ?_
   .have:=xp hF i (by simp;omega);simpa using this
   .rintro e K ⟨rfl,l⟩;exact ⟨a,c,rfl,⟨S,λhO h=>h,λhO h=>zR h,hs.next l,Q4⟩,l⟩
  | some j=>
   obtain ⟨C,h2,v⟩:=ng hF;simp at C;obtain ⟨t,H,_,_⟩:=nt fs at_ j g (by omega);refine (Qs a c at_ j fs w hs P g (by omega) n (by simpa using h2) (λi u h=>?_) Q4).m ?_
   .have:=v i (by simp;omega) h;simpa using this
   .rintro e K ⟨Q0,rfl,D,l⟩;obtain ⟨b,d,rfl,Y⟩:=hs.nj l D H (λe=>by rw [e] at t;simp only [nZ] at t;omega);exact ⟨b,d,rfl,Y,l⟩
 have M:∀ b d W,yQ S w W b d (bY fs at_ f).1->zB w W->zC prog 215 #[B b (bY fs at_ f).1.length d,zK (A (yh f.1))] W (qg S (dL fs at_ f) w):=by
  rintro b d W ⟨S1,s1,s2,s3,s4⟩ l;have w':(bY fs at_ f).1.length=G fs/\∃ h:(bY fs at_ f).2<(bY fs at_ f).1.length,(bY fs at_ f).1[(bY fs at_ f).2]=f/\∀ i (h:i<(bY fs at_ f).1.length),i<(bY fs at_ f).2->((bY fs at_ f).1[i]).1≠f.1:=by
   unfold bY;cases hF:lJ f.2.nm (fs.take at_) with
   | none=>exact ⟨rfl,g,s,n⟩
   | some j=>
    obtain ⟨C,_,_⟩:=ng hF;simp at C;obtain ⟨t,H,O,R⟩:=nt fs at_ j g (by omega);refine ⟨t,by simp only;omega,by simp only;rw [O (by omega)];exact s,λi u m=>?_⟩;simp only at u m ⊢;rw [R i u (by omega) m];exact n i (by omega) (by omega)
  obtain ⟨e1,N,V,T⟩:=w';exact (Qq b d _ _ f W s3 (by omega) N V s4 T).m λe K h=>h.after l s1 s2
 have p:=I L;have r:=I M;clear L M hs n s;generalize (bY fs at_ f).1=Q5 at *;generalize dL fs at_ f=q at *;go_in;go_wp2_with (go_at_call 216;refine mo p.o ?_;rintro e w1 ⟨b,d,rfl,Y,o⟩);have k:=I ((r.o b d w1 Y o).m (R':=λe K=>∃ (Z:Option zD) (z c1:Nat) (E:Option zD) (y c2:Nat),e=zP (zp #[B Z z c1,B E y c2])/\Hid (qg S q w e K)) (by
  rintro e K h;have F:=h;obtain ⟨_,h⟩:=h;cases q with
  | ok gs=>
   obtain ⟨b,d,x,_⟩:=h;exact ⟨_,_,_,_,_,_,x,F⟩
  | dZ ch=>
   obtain ⟨Q0,x,D⟩:=h;obtain ⟨QV,QT,rfl⟩:=eM D;exact ⟨_,_,_,_,_,_,x,F⟩))
 clear Y o p r;apply I;go_wp2_with (go_at_call 215;refine mo k.o ?_;rintro e w2 ⟨Z,z,c1,E,y,c2,rfl,U⟩);clear k;apply I;go_wp2;refine aK (v:=zp #[B Z z c1,B E y c2]) (by simp [results,results190,go_sem]) (by simp [go_sem]) ?_;exact U.o
def xJ (fs gs:List (Nat × Fd)) (at_:Nat) (f:Nat × Fd) (g:at_<G fs) (t:fs[at_]=f) (h:dL fs at_ f=.ok gs):G gs=G fs/\∀ x,x∈gs->x∈fs:=by
 have n:(bY fs at_ f).1.length=G fs/\(∀ x,x∈(bY fs at_ f).1->x∈fs)/\(bY fs at_ f).2<=at_:=by
  unfold bY;cases hF:lJ f.2.nm (fs.take at_) with
  | none=>exact ⟨rfl,λx e=>e,aG _⟩
  | some j=>
   obtain ⟨i,_,_⟩:=ng hF;simp at i;obtain ⟨p,o,_,_⟩:=nt fs at_ j g (by omega);exact ⟨p,o,by simp only;omega⟩
 unfold dL jW at h;generalize (bY fs at_ f).1=f1 at *;generalize (bY fs at_ f).2=m at *;obtain ⟨k,d,s⟩:=n;cases c:kT f.2.p f1 with
 | none=>
  rw [c] at h;cases h;exact ⟨k,d⟩
 | some l=>
  obtain ⟨i,_,_⟩:=si c;rw [c] at h;simp only at h;split at h
  .cases h;exact ⟨k,d⟩
  .cases b:dB f ((f1.drop m).take (l+1 - m)) [] [] [] with
   | dZ r=>rw [b] at h;cases h
   | ok D C=>
    rw [b] at h;cases h;have a:=yF _ _ _ _ _ _ _ b;refine ⟨?_,λx e=>d x (wZ (λy q=>?_) x e)⟩
    .simp only [b9,b6,nZ,sF,mG] at a ⊢;omega
    .have:=qT _ _ _ _ _ _ _ b y q;simp at this;exact lD (lS this)
def Qt {T:Nat × Fd->Prop} {g f:Nat × Fd} {b:List (List (Nat × Fd))} {c:List (Nat × Fd)} (h:dW g f b=A c) (m:∀ l,l∈b->∀ x,x∈l->T x) (i:T g) (k:T f):∀ x,x∈c->T x:=by
 unfold dW at h;split at h
 .cases h;intro x a;simp at a;rw [a];exact k
 .obtain ⟨e,d,j⟩:=oF.1 h;rw [<- j];intro x a;simp at a;rcases a with rfl|a
  .exact i
  .exact m e (vK d) x a
def xq {T:Nat × Fd->Prop} (f:Nat × Fd) (j:T f):∀ (gs st mv:List (Nat × Fd)) (d:List (List (Nat × Fd))) (c:List (Nat × Fd)),dB f gs st mv d=.dZ c->(∀ l,l∈d->∀ x,x∈l->T x)->(∀ x,x∈gs->T x)->(∀ x,x∈c->T x)/\c≠[]
 | [],st,mv,d,c,h,_,_=>by
  simp only [dB] at h;cases h
 | g::r,st,mv,d,c,h,e,i=>by
  simp only [dB] at h;cases b:dW g f d with
  | none=>
   rw [b] at h;exact xq f j r _ _ _ _ h e λx C=>i x (by simp [C])
  | some n=>
   rw [b] at h;simp only at h;have k:=Qt b e (i g (by simp)) j;split at h
   .cases h;refine ⟨k,?_⟩;unfold dW at b;split at b
    .cases b;simp
    .obtain ⟨c2,_,m⟩:=oF.1 b;rw [<- m];simp
   .refine xq f j r _ _ _ _ h (λl a=>?_) λx C=>i x (by simp [C]);simp at a;rcases a with a|rfl
    .exact e l a
    .exact k
def zY (fs c:List (Nat × Fd)) (at_:Nat) (f:Nat × Fd) (a:at_<G fs) (n:fs[at_]=f) (h:dL fs at_ f=.dZ c):(∀ x,x∈c->x∈fs)/\c≠[]:=by
 have m:∀ x,x∈(bY fs at_ f).1->x∈fs:=by
  unfold bY;cases hF:lJ f.2.nm (fs.take at_) with
  | none=>exact λx d=>d
  | some j=>
   obtain ⟨i,_,_⟩:=ng hF;simp at i;exact (nt fs at_ j a (by omega)).2.1
 unfold dL jW at h;generalize (bY fs at_ f).1=f1 at *;generalize (bY fs at_ f).2=g at *;cases e:kT f.2.p f1 with
 | none=>rw [e] at h;cases h
 | some l=>
  rw [e] at h;simp only at h;split at h
  .cases h
  .cases b:dB f ((f1.drop g).take (l+1 - g)) [] [] [] with
   | ok D C=>rw [b] at h;cases h
   | dZ o=>
    rw [b] at h;cases h;exact xq (T:=λx=>x∈fs) f (n▸bt a) _ _ _ _ _ b (λl k=>by simp at k) λx d=>m x (lD (lS d))
def cV (C:Nat->Nat) (g:Nat × Fd):Nat × Fd:=(C g.1,g.2)
def Uo.re (C:Nat->Nat):Uo->Uo
 | .ok E D=>.ok (E.map (cV C)) (D.map (cV C))
 | .dZ a=>.dZ (a.map (cV C))
def Ek.re (C:Nat->Nat):Ek->Ek
 | .ok D=>.ok (D.map (cV C))
 | .dZ a=>.dZ (a.map (cV C))
def wn (C:Nat->Nat) (g:Nat × Fd) (a:List (Nat × Fd)):yZ (cV C g) (a.map (cV C))=yZ g a:=by
 cases a<;>rfl
def Up (C:Nat->Nat) (g f:Nat × Fd) (a:List (List (Nat × Fd))) (h:C g.1=C f.1->g.1=f.1):dW (cV C g) (cV C f) (a.map (List.map (cV C)))=(dW g f a).map (List.map (cV C)):=by
 unfold dW;by_cases e:g.1=f.1
 .have:(cV C g).1=(cV C f).1:=eL C e;rw [aB e,aB this];rfl
 .have:¬ (cV C g).1=(cV C f).1:=λb=>e (h b);rw [aA e,aA this,oI];have:(yZ (cV C g) ∘ List.map (cV C))=yZ g:=by
   funext ch;exact wn C g ch
  rw [this];cases a.find? (yZ g)<;>rfl
def C8 (C:Nat->Nat) (f:Nat × Fd):∀ (gs st mv:List (Nat × Fd)) (a:List (List (Nat × Fd))),(∀ g,g∈gs->C g.1=C f.1->g.1=f.1)->dB (cV C f) (gs.map (cV C)) (st.map (cV C)) (mv.map (cV C)) (a.map (List.map (cV C)))=(dB f gs st mv a).re C
 | [],st,mv,a,_=>rfl
 | g::r,st,mv,a,h=>by
  have c:∀ x,x∈r->C x.1=C f.1->x.1=f.1:=λx D=>h x (by simp [D]);simp only [fL,dB];rw [Up C g f a (h g (by simp))];cases dW g f a with
  | none=>
   have:=C8 C f r (st++[g]) mv a c;simpa using this
  | some d=>
   simp only [oH];by_cases b:aC g.2.nm f.2.p=true
   .have:aC (cV C g).2.nm (cV C f).2.p=true:=b;rw [aB b,aB this];rfl
   .have:¬ aC (cV C g).2.nm (cV C f).2.p=true:=b;rw [aA b,aA this];have:=C8 C f r st (mv++[g]) (a++[d]) c;simpa using this
def KJ (C:Nat->Nat) (b:List (List (Nat × Fd))):b9 (b.map (List.map (cV C)))=(b9 b).map (cV C):=by
 induction b with
 | nil=>rfl
 | cons a r c=>simp only [fL,b9,c,fK]
def KL (C:Nat->Nat) (x:By):∀ fs,lJ x (fs.map (cV C))=lJ x fs
 | []=>rfl
 | g::r=>by
  simp only [fL,lJ,KL C x r];rfl
def KM (C:Nat->Nat) (p:Pt):∀ fs,kT p (fs.map (cV C))=kT p fs
 | []=>rfl
 | g::r=>by
  simp only [fL,kT,KM C p r];rfl
def PM (C:Nat->Nat) (fs:List (Nat × Fd)) (at_ j:Nat):eK (fs.map (cV C)) at_ j=(eK fs at_ j).map (cV C):=by
 unfold eK;rw [<- KJ];simp [List.map_take,List.map_drop]
def PN (C:Nat->Nat) (fs:List (Nat × Fd)) (at_:Nat) (f:Nat × Fd):bY (fs.map (cV C)) at_ (cV C f)=((bY fs at_ f).1.map (cV C),(bY fs at_ f).2):=by
 unfold bY;have:lJ (cV C f).2.nm ((fs.map (cV C)).take at_)=lJ f.2.nm (fs.take at_):=by
  rw [<- List.map_take];exact KL C _ _
 rw [this];cases lJ f.2.nm (fs.take at_) with
 | none=>rfl
 | some j=>simp only [PM]
def Uq {b:List (List (Nat × Fd))} {x:Nat × Fd} (h:x∈b9 b):∃ l,l∈b/\x∈l:=by
 induction b with
 | nil=>simp [b9] at h
 | cons a r d=>
  rcases cG.1 h with h|h
  .exact ⟨a,(by simp),h⟩
  .obtain ⟨l,C,c⟩:=d h;exact ⟨l,by simp [C],c⟩
def Ak (fs:List (Nat × Fd)) (at_:Nat) (f:Nat × Fd):∀ x,x∈(bY fs at_ f).1->x∈fs:=by
 unfold bY;cases lJ f.2.nm (fs.take at_) with
 | none=>exact λx a=>a
 | some j=>
  intro x a;obtain ⟨l,b,C⟩:=Uq a;simp at b;rcases b with rfl|rfl|rfl|rfl
  .exact lS C
  .exact lD (lS C)
  .exact lD (lS C)
  .exact lD C
def Ur (C:Nat->Nat) (fs:List (Nat × Fd)) (at_:Nat) (f:Nat × Fd) (h:∀ g,g∈fs->C g.1=C f.1->g.1=f.1):dL (fs.map (cV C)) at_ (cV C f)=(dL fs at_ f).re C:=by
 unfold dL;rw [PN];have i:=Ak fs at_ f;generalize (bY fs at_ f).1=f1 at *;generalize (bY fs at_ f).2=a at *;unfold jW;have e:kT (cV C f).2.p (f1.map (cV C))=kT f.2.p f1:=KM C _ _;rw [e];cases kT f.2.p f1 with
 | none=>rfl
 | some l=>
  simp only;by_cases b:l<a
  .rw [aB b,aB b];rfl
  .rw [aA b,aA b];have c:=C8 C f ((f1.drop a).take (l+1 - a)) [] [] [] λg d=>h g (i g (lD (lS d)));simp only [List.map_nil,List.map_take,List.map_drop] at c;rw [c];cases dB f ((f1.drop a).take (l+1 - a)) [] [] [] with
   | ok E D=>
    simp only [Uo.re,Ek.re];rw [<- KJ];simp [List.map_take,List.map_drop]
   | dZ j=>rfl
def Us (C:Nat->Nat) (gs:List (Nat × Fd)) (x:By):ah (gs.map (cV C)) x=(ah gs x).map (cV C):=by
 unfold ah;rw [oI];rfl
def Ii (C:Nat->Nat) (gs:List (Nat × Fd)):mW (gs.map (cV C))=mW gs:=by
 funext x;unfold mW;rw [Us];cases ah gs x<;>rfl
def wt (C:Nat->Nat) (gs:List (Nat × Fd)) (b:Nat) (v:Vl) (h:∀ g,g∈gs->C g.1=C b->g.1=b):qH (gs.map (cV C)) (C b) v=(qH gs b v).map (cV C):=by
 unfold qH;rw [fM,fM];refine sB λg a=>?_;simp only [Function.comp];by_cases e:g.1=b
 .have:(cV C g).1=C b:=eL C e;rw [aB e,aB this];rfl
 .have:¬ (cV C g).1=C b:=λc=>e (h g a c);rw [aA e,aA this]
def PO (C:Nat->Nat) (gs:List (Nat × Fd)) (b:Nat) (h:∀ g,g∈gs->C g.1=C b->g.1=b):oh (gs.map (cV C)) (C b)=oh gs b:=by
 unfold oh;rw [oI];have:gs.find? ((λf:Nat × Fd=>f.1 == C b) ∘ cV C)=gs.find? (λf=>f.1 == b):=by
  refine find_congr gs _ _ λg D=>?_;show (C g.1 == C b)=(g.1 == b);by_cases e:g.1=b
  .rw [e];simp
  .have:¬ C g.1=C b:=λd=>e (h g D d);rw [bo.2 e,bo.2 this]
 rw [this];cases gs.find? (λf=>f.1 == b)<;>rfl
 where
 find_congr (l:List (Nat × Fd)) (p q:Nat × Fd->Bool) (h:∀ g,g∈l->p g=q g):l.find? p=l.find? q:=by
  induction l with
  | nil=>rfl
  | cons a r c=>
   rw [List.find?_cons,List.find?_cons,h a (by simp)];rw [c λg D=>h g (by simp [D])]
def yS (C:Nat->Nat):∀ (D:List Nat) (gs:List (Nat × Fd)),(∀ k,k∈D->∀ g,g∈gs->C g.1=C k->g.1=k)->iR (gs.map (cV C)) (D.map C)=(iR gs D).map (cV C)
 | [],gs,_=>rfl
 | k::r,gs,h=>by
  simp only [fL,iR];rw [PO C gs k (h k (by simp)),Ii,wt C gs k _ (h k (by simp))];refine yS C r _ λi b g c=>?_;have:g.1∈(qH gs k (cD (mW gs) (oh gs k))).map (λf=>f.1):=iJ c;rw [Ut] at this;obtain ⟨d,a,e⟩:=bU.1 this;rw [<- e];exact h i (by simp [b]) d a
def uM (C:Nat->Nat):∀ (gs:List (Nat × Fd)) (on:List By),aO on (gs.map (cV C))=(aO on gs).map (cV C)
 | [],_=>rfl
 | g::r,on=>by
  simp only [fL,aO];by_cases h:aF on g.2.p=true
  .have a:aF on (cV C g).2.p=true:=h;rw [aB h,aB a,fL];congr 1;exact uM C r (on++[g.2.nm])
  .have a:¬ aF on (cV C g).2.p=true:=h;rw [aA h,aA a];exact uM C r on
def aT (fs:List Fd):List (Nat × Fd):=fs.zipIdx.map λx=>(x.2,x.1)
inductive AR where
 | ok (fs:List Fd) (nm:List By)
 | err (c:Nat) (nm:List By)
def fq (fs:List Fd) (i:Nat) (f:Fd):AR:=match dL (aT fs) i (i,f) with
 | .ok C=>.ok ((iR C (((i,f)::aO [f.nm] C).map λx=>x.1)).map Prod.snd) (cJ ((i,f)::aO [f.nm] C))
 | .dZ a=>.err 8 (cJ a)
def mK (fs:List Fd) (x:By) (p:Pt):AR:=match fs.findIdx? (λf=>f.nm == x) with
 | some i=>match fs[i]? with
  | some f=>fq (fs.set i ⟨f.nm,p,f.v⟩) i ⟨f.nm,p,f.v⟩
  | none=>.err 5 []
 | none=>if (G fs)=10 then .err 7 [] else fq (fs++[⟨x,p,(0,0)⟩]) (G fs) ⟨x,p,(0,0)⟩
def mL (fs:List Fd) (x:By):AR:=match fs.findIdx? (λf=>f.nm == x) with
 | none=>.err 5 []
 | some i=>.ok ((iR (aT (fs.eraseIdx i)) ((aO [x] (aT (fs.eraseIdx i))).map λx=>x.1)).map Prod.snd) (cJ (aO [x] (aT (fs.eraseIdx i))))
def dN (x y:By) (f:Fd):Fd:=⟨if f.nm=x then y else f.nm,aR x y f.p,f.v⟩
def kr (fs:List Fd) (x y:By):AR:=match fs.findIdx? (λf=>f.nm == x) with
 | none=>.err 5 []
 | some i=>if (fs.find? λf=>f.nm == y).isSome then .err 6 [] else if fs.any (λf=>aC x f.p&&decide (100<(ai (aR x y f.p)).length)) then .err 7 [] else match fs[i]? with
  | some f=>fq (fs.map (dN x y)) i (dN x y f)
  | none=>.err 5 []
def eA (fs:List Fd):(aT fs).length=G fs:=by simp [aT]
def cW (fs:List Fd):(aT fs).map Prod.snd=fs:=by
 unfold aT;rw [fM];exact List.zipIdx_map_fst 0 fs
def qE (fs:List Fd) (i:Nat) (h:i<G fs):(aT fs)[i]?=A (i,fs[i]):=by
 simp [aT,h]
def xK:∀ (l:List Nat) (_:l.Nodup) (i:Nat) (h:i<G l),l.idxOf l[i]=i
 | [],_,i,h=>by simp at h
 | a::r,b,0,h=>by simp
 | a::r,b,i+1,h=>by
  rw [jB] at b;have d:i<G r:=(by simpa using h);have c:a≠r[i]:=λe=>b.1 (e▸bt d);simp only [List.getElem_cons_succ];rw [List.idxOf_cons,bo.2 c,xK r b.2 i d];rfl
def xL (gs:List (Nat × Fd)) (c:(gs.map Prod.fst).Nodup):gs.map (cV λb=>(gs.map Prod.fst).idxOf b)=aT (gs.map Prod.snd):=by
 apply rC
 .simp [aT]
 .intro i C d;have D:i<G gs:=(by simpa using C);have a:(gs.map Prod.fst).idxOf (gs[i]).1=i:=by
   have:=xK _ c i (by simpa using D);simpa using this
  simp [cV,aT,a]
def CD (gs:List (Nat × Fd)) (a b:Nat) (e:a∈gs.map Prod.fst) (f:b∈gs.map Prod.fst) (h:(gs.map Prod.fst).idxOf a=(gs.map Prod.fst).idxOf b):a=b:=by
 have d:=List.getElem_idxOf (List.idxOf_lt_length_of_mem e);have c:=List.getElem_idxOf (List.idxOf_lt_length_of_mem f);rw [<- d,<- c];simp only [h]
def JW (fs:List (Nat × Fd)) (w:(fs.map Prod.fst).Nodup) (i:Nat) (f:Nat × Fd) (F:fs[i]?=A f):fq (fs.map Prod.snd) i f.2=match dL fs i f with
  | .ok K=>.ok ((iR K ((f::aO [f.2.nm] K).map λx=>x.1)).map Prod.snd) (cJ (f::aO [f.2.nm] K))
  | .dZ s=>.err 8 (cJ s):=by
 obtain ⟨d,c⟩:=fI.1 F;have e:f.1∈fs.map Prod.fst:=iJ (c▸bt d);have o:(fs.map Prod.fst).idxOf f.1=i:=by
  have:=xK _ w i (by simpa using d);simpa [c] using this
 have e1:((i,f.2):Nat × Fd)=cV (λb=>(fs.map Prod.fst).idxOf b) f:=by simp [cV,o]
 have m:∀ g,g∈fs->(fs.map Prod.fst).idxOf g.1=(fs.map Prod.fst).idxOf f.1->g.1=f.1:=λg q h=>CD fs _ _ (iJ q) e h;unfold fq;rw [e1,<- xL fs w,Ur _ fs i f m];cases M:dL fs i f with
 | dZ s=>
  simp only [Ek.re];congr 1;simp [cJ,cV,ry]
 | ok K=>
  simp only [Ek.re];have a:=(El fs K i f d c M);have z:(cV (λb=>(fs.map Prod.fst).idxOf b) f::aO [(cV (λb=>(fs.map Prod.fst).idxOf b) f).2.nm] (K.map (cV λb=>(fs.map Prod.fst).idxOf b)))=(f::aO [f.2.nm] K).map (cV λb=>(fs.map Prod.fst).idxOf b):=by
   rw [fL];congr 1;exact uM _ K [f.2.nm]
  have p:(cV (λb=>(fs.map Prod.fst).idxOf b) f::aO [f.2.nm] (K.map (cV λb=>(fs.map Prod.fst).idxOf b)))=(f::aO [f.2.nm] K).map (cV λb=>(fs.map Prod.fst).idxOf b):=z;have D:((f::aO [f.2.nm] K).map (cV λb=>(fs.map Prod.fst).idxOf b)).map (λx=>x.1)=((f::aO [f.2.nm] K).map λx=>x.1).map (λb=>(fs.map Prod.fst).idxOf b):=by
   rw [fM,fM];rfl
  rw [p,D,yS]
  .congr 1
   .simp [cV,ry]
   .simp [cJ,cV,ry]
  .intro k C g q h;have r:k∈fs.map Prod.fst:=by
    obtain ⟨x,j,rfl⟩:=bU.1 C;rcases bQ.1 j with rfl|j
    .exact e
    .exact iJ (a x (mX _ _ x j))
   exact CD fs _ _ (iJ (a g q)) r h
 where
 El (fs K:List (Nat × Fd)) (L:Nat) (f:Nat × Fd) (E:L<G fs) (H:fs[L]=f) (h:dL fs L f=.ok K):∀ x,x∈K->x∈fs:=by
  have t:=Ak fs L f;unfold dL jW at h;generalize (bY fs L f).1=f1 at *;generalize (bY fs L f).2=u at *;cases v:kT f.2.p f1 with
  | none=>
   rw [v] at h;cases h;exact t
  | some l=>
   rw [v] at h;simp only at h;split at h
   .cases h;exact t
   .cases n:dB f ((f1.drop u).take (l+1 - u)) [] [] [] with
    | dZ s=>rw [n] at h;cases h
    | ok P O=>
     rw [n] at h;cases h;intro x j;refine t x (wZ (λy N=>?_) x j);have:=qT _ _ _ _ _ _ _ n y N;simp at this;exact lD (lS this)
end Go.Proofs.YtihgojcfpnhelaaGreatDoor
