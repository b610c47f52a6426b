import Derived.Test.YtihgojcfpnhelaaGreatDoorFd
set_option maxRecDepth 100000
set_option maxHeartbeats 4000000
set_option linter.all false
namespace Go.Proofs.YtihgojcfpnhelaaGreatDoor
open Go renaming World->zW,Value->zV,Calls->zC,Addr->zD
open Go.RowKit Go.Proofs.Tryz
open List renaming length→G
section
attribute [local go_sem] idx_eq app_eq
variable {F w w' W w1 w2:zW} {E:List En} {c R:Nat->Nat} {T i k:Nat} {O Z U lv v:zV} {V:List Bk} {X:List Nat} {Y:List Yd} {nm:List By} {l:Ln} {s:By} {bn:Option zD} {cn:Nat} {a:Ab} {hi:i<G E}
def nG {k:By} (h:Dc F T c O Z U E Y V i hi s l w) {er:Int} (b:(bT E[i].a l).1=⟨er,0,[],[],0,0⟩) {X:Int} {ns:List By} {t:Option Pt} (A:l.r=.ok X ns t) (x:ik X=k) (hw:k=[98,101,103,105,110]\/k=[99,111,109,109,105,116]\/k=[99,97,110,99,101,108]\/k=[117,110,100,111]\/k=[114,101,100,111])
  (hx:∀ (n:i<G Y) W,dE W Y[i].S Y[i].y Y[i].vb Y[i].va Y[i].d->CW E[i].a l Y[i].S Y[i].y Y[i].vb Y[i].va k W) :
  zC prog 56 #[zJ T,zI i,zG s] w (Dn c w F T O Z (E.set i ⟨E[i].e,E[i].k+1,(bT E[i].a l).2⟩) V):=by
 have n:i<(G Y):=Cj;have hX:i<(E.map En.e).length:=JF;obtain ⟨gx,px,L,x0,x1⟩:=h.pl.pb.KB hX;rw [kJ] at x1;rw [fy] at L;have Tw:(i:Int)<((G E):Int):=iD.2 hi;have Ud:(0:Int)<=(i:Int):=mF _;have hjY:(i:Int)<((G Y):Int):=iD.2 n;have HD:Hid (zC prog 20 #[.pointer (some ⟨E[i].e,0,none⟩),zG s] w λr w1=>∃ bn cn c1,r=.returned (.agg #[zI er,zI 0,zG [],.slice bn 0 cn,zI 0,zI 0])/\za c w F T c1 (zS gx (G E) px) Z U E Y V i l hi bn cn w1):=I ((L▸h.mid).m λr w1 A=>by
  obtain ⟨bn,cn,c1,rfl,m⟩:=A;rw [b];exact ⟨bn,cn,c1,rfl,m⟩)
 have y:=I b;have HN:Hid ((bT E[i].a l).1.nm.length<=1000):=I (by rw [b];exact bE _);have S:=I (λW=>zb (w:=W) (A▸h.lp));rw [x] at S;have HX:=I (hx n);have HB:=I h.bs9;subst L;clear h A hx b x;rcases hw with rfl|rfl|rfl|rfl|rfl
 all_goals
  go_in;go_wp2_with (go_at_call 20;refine mo HD.o ?_;rintro e w1 ⟨bn,cn,c1,rfl,m⟩);obtain ⟨gy,py,rfl,R,y1⟩:=m.pm.pb.Fc n;have C:∃ o,o=fp er 0 [] bn 0 cn 0 0:=⟨_,rfl⟩;obtain ⟨o,ho⟩:=C;have g:=eE o R;have f:=eE o y1;rw [ho] at g f;simp only [fp] at g f;have HM:=I m;have p:c1 w1.heap.size=0:=rz.1 λh=>iC _ (m.pm.pb.lt _ h).2;have M:=I p;clear m R y1 p ho;apply I;go_wp2_with (go_at_call 36;refine mo (S.o _) ?_;rintro e w2 ⟨va,vl,vc,rfl,hb,hT⟩;have v:=I hb;have HT:=I hT;clear hb hT);have q:=I ((HM.o.next (bI _ _)).next v.o);have u:=I (ub (w:=w1) v.o);obtain ⟨⟨H,D,Q,K,N,P⟩,-⟩:=eC u.o;have z:=I (aeU q.o n (HX.o _ (q.o.pm.pb.y9 i n)));rw [y.o] at z;clear g f H D Q K N P;apply I;go_wp2_with (go_at_call 85;refine mo z.o ?_;rintro e w3 ⟨rfl,d⟩;have HQ:=I d;clear d);have a:=I (HQ.o.row (aM _ _) u.o M.o);obtain ⟨⟨H,D,Q,K,N,P⟩,-⟩:=eC a.o;apply I;go_wp2_with (go_at_call 81;refine mo (xT _ _ _ _) ?_;rintro e w5 ⟨rfl,d⟩;have j:=I d;clear d);obtain ⟨⟨-,-,-,s3,-,-⟩,-⟩:=eC ((j.o.block _ (cz.1 a.o).1).t a.o);have B:=I (λW (hW:zB w5 W)=>oB HQ.o HB.o HN.o W (j.o.t (hW.m j.o.size)));rw [y.o] at B;replace B:Hid (∀ W,zB w5 W->zC prog 86 #[.pointer (some ⟨T,2,none⟩),.slice bn 0 cn] W λr w'=>r=.returned (.tuple #[])/\Dn c w F T (zS gx (G E) px) (zS gy (G Y) py) (E.set i ⟨E[i].e,E[i].k+1,(bT E[i].a l).2⟩) V (.returned (.bool true)) w'):=B;clear H D Q K N P;apply I;go_wp2_with fail
  go_region_with (first|(go_at_call 86;(with_reducible refine (B.o _ (aM _ _).drew).m ?_);rintro e w4 ⟨rfl,d⟩;have J:=I d;clear d))
  go_wp2_with fail;go_ret;exact J.o
end
end Go.Proofs.YtihgojcfpnhelaaGreatDoor
