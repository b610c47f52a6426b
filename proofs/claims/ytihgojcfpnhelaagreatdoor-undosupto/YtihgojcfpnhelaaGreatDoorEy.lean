import Derived.Test.YtihgojcfpnhelaaGreatDoorFd
set_option maxRecDepth 100000
set_option maxHeartbeats 4000000
set_option linter.all false
namespace Go.Proofs.YtihgojcfpnhelaaGreatDoor
open Value renaming slice->B,agg->zd,tuple->zp,bool->zF,pointer->zK
open Ending renaming returned->zP
open Option renaming some->A
open Go renaming World->zW,Value->zV,Calls->zC,Addr->zD
open Go.RowKit Go.Proofs.Tryz
open List renaming length→G
section
attribute [local go_sem] ap aq
variable {F w w' W w1 w2:zW} {E:List En} {c R:Nat->Nat} {T i k:Nat} {O Z U lv v:zV} {V:List Bk} {Q6:List Nat} {Y:List Yd} {nm:List By} {l:Ln} {s:By} {bn:Option zD} {cn:Nat} {a:Ab} {hi:i<G E}
def nG {k:By} (h:Dc F T c O Z U E Y V i hi s l w) {er:Int} (b:(bT E[i].a l).1=⟨er,0,[],[],0,0⟩) {Q6:Int} {ns:List By} {t:Option Pt} (Q0:l.r=.ok Q6 ns t) (x:ik Q6=k) (hw:k=[98,101,103,105,110]\/k=[99,111,109,109,105,116]\/k=[99,97,110,99,101,108]\/k=[117,110,100,111]\/k=[114,101,100,111])
  (hx:∀ (n:i<G Y) W,dE W Y[i].S Y[i].y Y[i].vb Y[i].va Y[i].d->CW E[i].a l Y[i].S Y[i].y Y[i].vb Y[i].va k W) :
  zC prog 56 #[zJ T,J i,Q s] w (Dn c w F T O Z (E.set i ⟨E[i].e,E[i].k+1,(bT E[i].a l).2⟩) V):=by
 have n:i<G Y:=(by rw [h.pl.len];exact hi);have hX:i<(E.map En.e).length:=(by rw [fy];exact hi);obtain ⟨q,px,L,x0,x1⟩:=h.pl.pb.KB hX;rw [kJ] at x1;rw [fy] at L;have Tw:(i:Int)<(G E:Int):=iD.2 hi;have Ud:(0:Int)<=(i:Int):=mF _;have ho:(i:Int)<(G Y:Int):=iD.2 n;have HD:Hid (zC prog 20 #[zK (A (yh (E[i].e))),Q s] w λr w1=>∃ bn cn c1,r=zP (zd #[J er,J 0,Q [],B bn 0 cn,J 0,J 0])/\za c w F T c1 (zS q (G E) px) Z U E Y V i l hi bn cn w1):=I ((L▸h.mid).m λr w1 Q0=>by
  obtain ⟨bn,cn,c1,rfl,m⟩:=Q0;rw [b];exact ⟨bn,cn,c1,rfl,m⟩)
 have HQ:=I b;have HN:Hid ((bT E[i].a l).1.nm.length<=1000):=I (by rw [b];exact bE _);have S:=I (λW=>zb (w:=W) (Q0▸h.lp));rw [x] at S;have HX:=I (hx n);have HB:=I h.bs9;subst L;clear h Q0 hx b x;rcases hw with rfl|rfl|rfl|rfl|rfl
 all_goals
  go_in;go_wp2_with (go_at_call 20;refine mo HD.o ?_;rintro e w1 ⟨bn,cn,c1,rfl,m⟩);obtain ⟨gy,py,rfl,R,y1⟩:=m.pm.pb.Fc n;have hT:∃ o,o=fp er 0 [] bn 0 cn 0 0:=⟨_,rfl⟩;obtain ⟨o,z⟩:=hT;have g:=eE o R;have f:=eE o y1;rw [z] at g f;simp only [fp] at g f;have HM:=I m;have Q4:c1 w1.heap.size=0:=rz.1 λh=>iC _ (m.pm.pb.lt _ h).2;have hb:=I Q4;clear m R y1 Q4 z;apply I;go_wp2_with (go_at_call 36;refine mo (S.o _) ?_;rintro e w2 ⟨va,vl,vc,rfl,y,u⟩;have v:=I y;have HT:=I u;clear y u);have Q5:=I ((HM.o.next (bI _ _)).next v.o);have QT:=I (ub (w:=w1) v.o);obtain ⟨⟨H,D,K,M,N,P⟩,-⟩:=eC QT.o;have gx:=I (uI Q5.o n (HX.o _ (Q5.o.pm.pb.y9 i n)));rw [HQ.o] at gx;clear g f H D K M N P;apply I;go_wp2_with (go_at_call 85;refine mo gx.o ?_;rintro e w3 ⟨rfl,d⟩;have p:=I d;clear d);have a:=I (p.o.row (aM _ _) QT.o hb.o);obtain ⟨⟨H,D,K,M,N,P⟩,-⟩:=eC a.o;apply I;go_wp2_with (go_at_call 81;refine mo (xT _ _ _ _) ?_;rintro e w5 ⟨rfl,d⟩;have j:=I d;clear d);obtain ⟨⟨-,-,-,s3,-,-⟩,-⟩:=eC ((j.o.block _ (cz.1 a.o).1).t a.o);have C:=I (λW (hW:zB w5 W)=>oB p.o HB.o HN.o W (j.o.t (hW.m j.o.size)));rw [HQ.o] at C;replace C:Hid (∀ W,zB w5 W->zC prog 86 #[zK (A (X T 2)),B bn 0 cn] W λr w'=>r=zP (zp #[])/\Dn c w F T (zS q (G E) px) (zS gy (G Y) py) (E.set i ⟨E[i].e,E[i].k+1,(bT E[i].a l).2⟩) V (zP (zF true)) w'):=C;clear H D K M N P;apply I;go_wp2_with fail
  go_region_with (first|(go_at_call 86;(with_reducible refine (C.o _ (aM _ _).drew).m ?_);rintro e w4 ⟨rfl,d⟩;have QV:=I d;clear d))
  go_wp2_with fail;go_ret;exact QV.o
end
end Go.Proofs.YtihgojcfpnhelaaGreatDoor
