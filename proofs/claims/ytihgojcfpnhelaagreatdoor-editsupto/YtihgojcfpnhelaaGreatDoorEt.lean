import Derived.Test.YtihgojcfpnhelaaGreatDoorDb
import Derived.Test.YtihgojcfpnhelaaGreatDoorEm
import Derived.Test.YtihgojcfpnhelaaGreatDoorEk
set_option maxRecDepth 100000
set_option maxHeartbeats 4000000
set_option linter.all false
namespace Go.Proofs.YtihgojcfpnhelaaGreatDoor
open Value renaming slice->B,agg->zd,tuple->zp,bool->zF,pointer->zK
open Obj renaming cells->zM
open Ending renaming returned->zP
open Option renaming some->A
open Or renaming inl->zR,inr->zZ
open Go renaming World->zW,Value->zV,Calls->zC,Addr->zD
open Go.RowKit Go.Proofs.Tryz
open List renaming length→G
section
attribute [local go_sem] ap aq
variable {w w' W:zW} {q cl cf i U j k:Nat} {al af:Option zD} {K:List (By × Nat)} {fs:List RF} {no Z:Bool} {v v' u:Vl}
def qt {c:UInt8} {r:By} (x:aw K i=c::r) (D:cT c=true) (z:G r<=1000) (Q4:kv (c::r)) (C:cR (c::r)<=gP):eU q al cl af cf K fs 263 #[eV q] i (1,(cR (c::r):Int)) (i+1) false:=by
 intro w h;have QT:(i:Int)<=1000:=a6.2 (bf (lF (bP x (by simp))) h.tl);have y:=I h.pr;have L:=I x;have F:=h.lt;have r0:q≠w.heap.size:=cZ F;have Q0:w.heap.size≠q:=cN F;clear h x;have t:dm (c.toNat:Int)=true:=D;have N:=I Q4;have O:=I C;have Y:=I z;clear Q4 C z D;generalize p:bm (c::r)=r1;generalize f:(cR (c::r):Int)=P;have s:=I f;clear f;go_in;go_wp2_with (go_at_call 209;refine mo (fS y.o.at_) ?_;rintro e w1 ⟨rfl,k⟩);have m:=I (y.o.next k);clear k y;rw [L.o];obtain ⟨⟨M,T⟩,⟨b,a⟩,d⟩:=m.o.rows;obtain ⟨⟨R,S,H,V⟩,⟨f0,f1,f2,f3⟩,n⟩:=aX m.o.at_.row;apply I;go_wp2_with (go_at_call 76;refine mo (dD _ _) ?_;rintro e w2 ⟨rfl,g⟩);have u:=I ((m.o.inc (i+1)).next g);clear g m M T b a d;clear R S H V f0 f1 f2 f3 n;obtain ⟨⟨M,T⟩,⟨b,a⟩,d⟩:=u.o.rows
 try rw [p]
 apply I;go_wp2_with (go_at_call 109;refine mo (bR (c.toNat:Int) _) ?_;rintro e w3 ⟨rfl,rfl⟩)
 try rw [t]
 apply I;go_wp2_with (go_at_call 125;refine mo (zr c r _ Y.o N.o O.o) ?_;rintro e w4 ⟨rfl,l⟩);have o:=I (u.o.next l);clear l u M T b a d;obtain ⟨⟨M,T⟩,⟨b,a⟩,d⟩:=o.o.rows
 try rw [s.o]
 apply I;go_wp2_with (go_at_call 262;refine mo (zy _ _) ?_;rintro e U ⟨rfl,j⟩);have E:=I (o.o.next j);clear j o M T b a d;obtain ⟨⟨M,T⟩,⟨b,a⟩,d⟩:=E.o.rows;apply I;go_wp2_with fail;refine aK (v:=gH (1,P)) (by simp [results,results263,go_sem,M,T]) rfl ?_;exact ⟨rfl,E.o.o _ _⟩
def qv (m:aw K i=[116,114,117,101]):eU q al cl af cf K fs 263 #[eV q] i (bD true) (i+1) false:=by
 intro w h;have z:(i:Int)<=1000:=a6.2 (bf (lF (bP m (by simp))) h.tl);have o:=I h.pr;have F:=I m;have t:=h.lt;have H:q≠w.heap.size:=cZ t;have r:w.heap.size≠q:=cN t;clear h m;have n:dm 116=false:=(by decide);have l:bm [116,114,117,101]=false:=(by decide);go_in;go_wp2_with (go_at_call 209;refine mo (fS o.o.at_) ?_;rintro e L ⟨rfl,d⟩);have j:=I (o.o.next d);clear d o;rw [F.o];obtain ⟨⟨D,E⟩,⟨b,a⟩,c⟩:=j.o.rows;obtain ⟨⟨u,x,y,C⟩,⟨f0,f1,f2,f3⟩,k⟩:=aX j.o.at_.row;apply I;go_wp2_with (go_at_call 76;refine mo (dD _ _) ?_;rintro e M ⟨rfl,f⟩);have p:=I ((j.o.inc (i+1)).next f);clear f j D E b a c;clear u x y C f0 f1 f2 f3 k;obtain ⟨⟨D,E⟩,⟨b,a⟩,c⟩:=p.o.rows
 try rw [l]
 apply I;go_wp2_with (go_at_call 109;refine mo (bR 116 _) ?_;rintro e N ⟨rfl,rfl⟩)
 try rw [n]
 apply I;go_wp2_with (go_at_call 254;refine mo (vq _ _) ?_;rintro e O ⟨rfl,g⟩);have s:=I (p.o.next g);clear g p D E b a c;obtain ⟨⟨D,E⟩,⟨b,a⟩,c⟩:=s.o.rows;apply I;go_wp2_with fail;refine aK (v:=gH (bD true)) (by simp [results,results263,go_sem,D,E]) rfl ?_;exact ⟨rfl,s.o.o _ _⟩
def qw (m:aw K i=[102,97,108,115,101]):eU q al cl af cf K fs 263 #[eV q] i (bD false) (i+1) false:=by
 intro w h;have z:(i:Int)<=1000:=a6.2 (bf (lF (bP m (by simp))) h.tl);have o:=I h.pr;have F:=I m;have t:=h.lt;have H:q≠w.heap.size:=cZ t;have r:w.heap.size≠q:=cN t;clear h m;have n:dm 102=false:=(by decide);have l:bm [102,97,108,115,101]=false:=(by decide);go_in;go_wp2_with (go_at_call 209;refine mo (fS o.o.at_) ?_;rintro e L ⟨rfl,d⟩);have j:=I (o.o.next d);clear d o;rw [F.o];obtain ⟨⟨D,E⟩,⟨b,a⟩,c⟩:=j.o.rows;obtain ⟨⟨u,x,y,C⟩,⟨f0,f1,f2,f3⟩,k⟩:=aX j.o.at_.row;apply I;go_wp2_with (go_at_call 76;refine mo (dD _ _) ?_;rintro e M ⟨rfl,f⟩);have p:=I ((j.o.inc (i+1)).next f);clear f j D E b a c;clear u x y C f0 f1 f2 f3 k;obtain ⟨⟨D,E⟩,⟨b,a⟩,c⟩:=p.o.rows
 try rw [l]
 apply I;go_wp2_with (go_at_call 109;refine mo (bR 102 _) ?_;rintro e N ⟨rfl,rfl⟩)
 try rw [n]
 apply I;go_wp2_with (go_at_call 254;refine mo (vq _ _) ?_;rintro e O ⟨rfl,g⟩);have s:=I (p.o.next g);clear g p D E b a c;obtain ⟨⟨D,E⟩,⟨b,a⟩,c⟩:=s.o.rows;apply I;go_wp2_with fail;refine aK (v:=gH (bD false)) (by simp [results,results263,go_sem,D,E]) rfl ?_;exact ⟨rfl,s.o.o _ _⟩
def qS {c:UInt8} {r:By} (u:aw K i=c::r) (Q0:cT c=false) (p:bm (c::r)=true):eU q al cl af cf K fs 263 #[eV q] i (eO fs (c::r)) (i+1) (decide ((eO fs (c::r)).1=0)):=by
 obtain ⟨t,l⟩:∃ t,Hid (eO fs (c::r)=t):=⟨_,I rfl⟩;rw [l.o];intro w h;have D:(i:Int)<=1000:=a6.2 (bf (lF (bP u (by simp))) h.tl);have x:=I h.pr;have E:=I u;have N:=h.lt;have F:q≠w.heap.size:=cZ N;have y:w.heap.size≠q:=cN N;clear h u;have s:dm (c.toNat:Int)=false:=Q0;have e1:((c::r) == [116,114,117,101])=false:=bo.2 (fD _ _ p (by decide));have P:((c::r) == [102,97,108,115,101])=false:=bo.2 (fD _ _ p (by decide));clear Q0;go_in;go_wp2_with (go_at_call 209;refine mo (fS x.o.at_) ?_;rintro e R ⟨rfl,k⟩);have n:=I (x.o.next k);clear k x;rw [E.o];obtain ⟨⟨L,M⟩,⟨b,a⟩,d⟩:=n.o.rows;obtain ⟨⟨H,O,C,G⟩,⟨f0,f1,f2,f3⟩,o⟩:=aX n.o.at_.row;apply I;go_wp2_with (go_at_call 76;refine mo (dD _ _) ?_;rintro e S ⟨rfl,g⟩);have m:=I ((n.o.inc (i+1)).next g);clear g n L M b a d;clear H O C G f0 f1 f2 f3 o;obtain ⟨⟨L,M⟩,⟨b,a⟩,d⟩:=m.o.rows
 try rw [p]
 apply I;go_wp2_with (go_at_call 109;refine mo (bR (c.toNat:Int) _) ?_;rintro e T ⟨rfl,rfl⟩)
 try rw [s]
 apply I;go_wp2_with (go_at_call 264;refine (Vz (c::r) m.o.at_).m ?_;rw [l.o];rintro e V ⟨rfl,j,f⟩;apply Hid.o);have z:=I (m.o.call f j);clear f j m L M b a d;obtain ⟨⟨L,M⟩,⟨b,a⟩,d⟩:=z.o.rows;apply I;go_wp2_with fail;refine aK (v:=gH t) (by simp [results,results263,go_sem,L,M]) rfl ?_;exact ⟨rfl,z.o.o _ _⟩
def rb (H:aw K i=[45]) (O:eU q al cl af cf K fs 263 #[eV q] (i+1) v j no):eU q al cl af cf K fs 263 #[eV q] i (if no=true then v else iW (aP 1 v)) j no:=by
 obtain ⟨y,d⟩:∃ y,Hid ((if no=true then v else iW (aP 1 v))=y):=⟨_,I rfl⟩;rw [d.o];intro w h;have Q5:(i:Int)<=1000:=a6.2 (bf (lF (bP H (by simp))) h.tl);have T:=I h.pr;have W:=I H;have P:=h.lt;have hs:q≠w.heap.size:=cZ P;have Q4:w.heap.size≠q:=cN P;clear h H;have QV:dm 45=false:=(by decide);have F:bm [45]=false:=(by decide);have Q6:=I O;clear O;go_in;go_wp2_with (go_at_call 209;refine mo (fS T.o.at_) ?_;rintro e w1 ⟨rfl,p⟩);have C:=I (T.o.next p);clear p T;rw [W.o];obtain ⟨⟨L,M⟩,⟨b,a⟩,c⟩:=C.o.rows;obtain ⟨⟨r1,hv,Q0,k3⟩,⟨f0,f1,f2,f3⟩,E⟩:=aX C.o.at_.row;apply I;go_wp2_with (go_at_call 76;refine mo (dD _ _) ?_;rintro e w2 ⟨rfl,s⟩);have D:=I ((C.o.inc (i+1)).next s);clear s C L M b a c;clear r1 hv Q0 k3 f0 f1 f2 f3 E;obtain ⟨⟨L,M⟩,⟨b,a⟩,c⟩:=D.o.rows
 try rw [F]
 apply I;go_wp2_with (go_at_call 109;refine mo (bR 45 _) ?_;rintro e w3 ⟨rfl,rfl⟩)
 try rw [QV]
 apply I;go_wp2_with (go_at_call 263;refine mo (Q6.o _ D.o.at_) ?_;rintro e w4 ⟨rfl,z,r⟩);have t:=I (D.o.call r z);clear r z D L M b a c;have aa:=cZ t.o.rows.2.2;have QT:=cN t.o.rows.2.2;apply I;go_wp2_with (go_at_call 210;refine mo (dC v (t.o.new v).at_) ?_;rintro e w5 ⟨rfl,o⟩);have n:=I ((t.o.new v).next o);clear o t;obtain ⟨⟨⟨L,M⟩,⟨b,a⟩,c⟩,⟨S,R⟩,⟨l,g⟩,k⟩:=n.o.rows;cases Y:dY v no
 .obtain ⟨r0,m⟩:=I4 Y;subst r0;by_cases N:v.1=1
  .have G:(v.1 == 1)=true:=(by simpa using N);have x:=I (show y=(1,wrap64 (-v.2)) by rw [<- d.o,aA (by simp),show aP 1 v=v from aA (λh=>h.1 N)];exact (aA m).t rfl);clear N m d;apply I;go_wp2_with (go_at_call 262;refine mo (zy _ _) ?_;rintro e Z ⟨rfl,f⟩);have u:=I (n.o.next f);clear f n L M b a c S R l g k;obtain ⟨⟨⟨L,M⟩,⟨b,a⟩,c⟩,⟨S,R⟩,⟨l,g⟩,k⟩:=u.o.rows;generalize wrap64 (-v.2)=U at *;apply I;go_wp2_with fail;refine aK (v:=gH (1,U)) (by simp [results,results263,go_sem,L,M]) rfl ?_;rw [x.o];exact ⟨rfl,u.o.o _ _⟩
  .have G:(v.1 == 1)=false:=(by simpa using N);have x:=I (show y=cL 2 by rw [<- d.o,aA (by simp)];unfold aP;rw [aB ⟨N,m⟩];rfl);clear N m d;apply I;go_wp2_with (go_at_call 211;refine mo (mR _ _) ?_;rintro e Z ⟨rfl,f⟩);have u:=I (n.o.next f);clear f n L M b a c S R l g k;obtain ⟨⟨⟨L,M⟩,⟨b,a⟩,c⟩,⟨S,R⟩,⟨l,g⟩,k⟩:=u.o.rows;apply I;go_wp2_with fail;refine aK (v:=gH (cL 2)) (by simp [results,results263,go_sem,L,M]) rfl ?_;rw [x.o];exact ⟨rfl,u.o.o _ _⟩
 .have x:=I (show y=v by
   rw [<- d.o];rcases nJ Y with rfl|⟨rfl,V⟩
   .rfl
   .rw [aA (by simp),yf V];unfold iW;rw [aB V])
  clear d;apply I;go_wp2_with fail;refine aK (v:=gH v) (by simp [results,results263,go_sem,L,M]) rfl ?_;rw [x.o];exact ⟨rfl,n.o.o _ _⟩
def rf (x:aw K i=[40]) (G:eU q al cl af cf K fs 155 #[eV q] (i+1) v j no) (Q0:aw K j=[41]):eU q al cl af cf K fs 263 #[eV q] i v (j+1) no:=by
 intro w h;have L:(j:Int)<=1000:=a6.2 (bf (lF (bP Q0 (by simp))) h.tl);have N:(i:Int)<=1000:=a6.2 (bf (lF (bP x (by simp))) h.tl);have z:=I h.pr;have O:=I x;have V:=h.lt;have Q5:q≠w.heap.size:=cZ V;have E:w.heap.size≠q:=cN V;clear h x;have y:dm 40=false:=(by decide);have u:bm [40]=false:=(by decide);have P:=I G;clear G;go_in;go_wp2_with (go_at_call 209;refine mo (fS z.o.at_) ?_;rintro e w1 ⟨rfl,g⟩);have s:=I (z.o.next g);clear g z;rw [O.o];obtain ⟨⟨r,p⟩,⟨b,a⟩,c⟩:=s.o.rows;obtain ⟨⟨S,C,D,Y⟩,⟨f0,f1,f2,f3⟩,f⟩:=aX s.o.at_.row;apply I;go_wp2_with (go_at_call 76;refine mo (dD _ _) ?_;rintro e w2 ⟨rfl,l⟩);have t:=I ((s.o.inc (i+1)).next l);clear l s r p b a c;clear S C D Y f0 f1 f2 f3 f;obtain ⟨⟨r,p⟩,⟨b,a⟩,c⟩:=t.o.rows
 try rw [u]
 apply I;go_wp2_with (go_at_call 109;refine mo (bR 40 _) ?_;rintro e w3 ⟨rfl,rfl⟩)
 try rw [y]
 apply I;go_wp2_with (go_at_call 155;refine mo (P.o _ t.o.at_) ?_;rintro e R ⟨rfl,n,k⟩);have d:=I (t.o.call k n);clear k n t r p b a c;have Q4:=cZ d.o.rows.2.2;have F:=cN d.o.rows.2.2;have w4:q≠R.heap.size:=cZ d.o.at_.lt;have H:R.heap.size≠q:=cN d.o.at_.lt;obtain ⟨⟨r,p⟩,⟨b,a⟩,c⟩:=d.o.rows;obtain ⟨⟨S,C,D,Y⟩,⟨f0,f1,f2,f3⟩,f⟩:=aX d.o.at_.row;obtain ⟨W3,m⟩:∃ W3,Hid ((((R.setCell (X q 1) (J ((j:Int)+1))).setCell (yh w.heap.size) (J v.1)).setCell (X w.heap.size 1) (J v.2))=W3):=⟨_,I rfl⟩;have o:Hid ((gp q al cl af cf K fs W3 (j+1) no/\Kp q w W3)/\W3.heap[w.heap.size]?=A (zM #[J v.1,J v.2] 129 (0,0))):=I (m.o▸⟨(d.o.inc (j+1)).o _ _,((aj ((aj (d.o.inc (j+1)).r0 0 _).t rfl) 1 _).t rfl)⟩);apply I;go_wp2_with fail;rw [m.o];obtain ⟨⟨z0,T⟩,-,M⟩:=cq (tP o.o.2 (zM #[J v.1,J v.2] 129));refine aK (v:=gH v) (by simp [results,results263,go_sem,z0,T]) rfl ?_;exact ⟨rfl,o.o.1.1.next (bI _ _),o.o.1.2.next (bI _ _) o.o.1.1.lt⟩
variable {v u vb va O U:zV} {P S S':Nat->Prop} {y:Nat} {V:List (List RF)} {l:List RF} {Z:List zV} {d:De}
def J2 (b:TypeId) (h:dA w v Z) (y:G Z<=1000000) (n:∀ x∈Z,x.oneCell'=true) :
  ∃ v' w',(Builtin.append_ #[112,112] b #[zN,v]).run prog w=.ok v' w'/\dA w' v' Z/\zB w w'/\∀ q,v'.ownBlock=A q->w.heap.size<=q:=by
 obtain ⟨l,m,c,f,d⟩:=fe fb;rcases h with ⟨rfl,rfl⟩|⟨g,o,i,rfl,t,z,u,s,D⟩
 .exact ⟨zN,w,run_append_owned_none (P:=prog) w w.heap.size _ b _ l 1 underlying112 m _ 0 [] (eW _ _ _ _),zR ⟨rfl,rfl⟩,aM _ _,λq C=>by cases C⟩
 .obtain ⟨v',w',p,e,a,_⟩:=run_append_own (P:=prog) w w.heap.size _ b _ l _ 1 24 underlying112 m c f d rfl (by decide) (zN) 0 [] (eW _ _ _ _) (X g o) (G Z) i Z (by omega) (λj x E=>by rw [Addr.add_lit];exact D j x E) n (by unfold maxLen;omega) (by omega) (aG _);rw [cS,ko] at e;refine ⟨v',w',p,dA.own e,⟨a.os,a.tape,a.output,a.size,λk r=>a.block k r (by simp [Value.ownBlock])⟩,λq C=>?_⟩;exact (fJ e q C).1
def tQ {b:Array Oper} {rest:List Oper} {o:Oper} {a:Act} {C:Exit->Act->zW->Prop} (c:o.guard=none) (s x:Operand)
  (k:o.op=.call { callee:=.builtin .append,args:=#[s,x],argTypes:=#[112,112] }) (hs:a.eval s=zN) (m:a.eval x=v) (h:dA w v Z) (j:G Z<=1000000) (d:∀ x∈Z,x.oneCell'=true)
  (e:∀ v' w',dA w' v' Z->zB w w'->(∀ q,v'.ownBlock=A q->w.heap.size<=q)->wpList prog b C rest (a.put o.dst v') w'):wpList prog b C (o::rest) a w:=by
 obtain ⟨v',w',i,l,g,f⟩:=J2 o.type h j d;exact Lib.wpList_append_run w c s x _ _ k _ _ hs m v' w' i (e v' w' l g f)
def nO.one {us:List zV} (h:nO w S us V):∀ x∈us,x.oneCell'=true:=by
 intro x f;obtain ⟨j,d,rfl⟩:=e9 f;have b:j<G V:=h.1▸d;obtain ⟨⟨_,a,c,e,_⟩,_⟩:=h.2 j us[j] V[j] (cU d) (cU b);rw [e];rfl
def Ks.new {R:Nat->Prop} {w1 w2:zW} (h:Ks P w w1) (g:Ks R w1 w2) (b:∀ q,R q->w.heap.size<=q):Ks P w w2:=
 ⟨g.os.t h.os,g.tape.t h.tape,g.output.t h.output,bf h.size g.size,λk a c=>(g.block k (bG a h.size) λd=>iC _ (bG a (b k d))).t (h.block k a c)⟩
def lZ (d:De):Nat × De:=if d.op=true then (9,d) else match d.bk.getLast? with
 | none=>(11,d)
 | some f=>(0,{ d with fs:=f,bk:=d.bk.dropLast,ag:=d.ag++[d.fs] })
def l6 (d:De):Nat × De:=if d.op=true then (9,d) else match d.ag.getLast? with
 | none=>(11,d)
 | some f=>(0,{ d with fs:=f,ag:=d.ag.dropLast,bk:=eI (d.bk++[d.fs]) d.M })
def J3 (S:Nat->Prop) (y:Nat) (vb va:zV) (x:Nat × De) (w:zW) (r:Ending) (w':zW):Prop:=
 ∃ O U,r=zP (J (x.1:Int))/\dE w' S y O U x.2/\Ks (kz y vb va) w w'/\∀ q,kz y O U q->kz y vb va q\/w.heap.size<=q
def TB (h:dE w S y vb va d) (a5:G d.ag<=900):zC prog 124 #[zJ y,zF true] w (J3 S y vb va (lZ d) w):=by
 obtain ⟨vf,Z,s,r,R⟩:=h.row;obtain ⟨⟨c0,c1,c2,c3,c4,c5⟩,⟨z0,L,O,e',QT,P⟩,hz⟩:=eC s;obtain ⟨Y,SY,F,n⟩:=h.bk;obtain ⟨H,m,t,x⟩:=h.ag;have N:=I h;obtain ⟨ba,v,rfl,a3,a4⟩:=SY.len;obtain ⟨aa,ac,rfl,a0,a2⟩:=m.len;cases a:d.op
 .rcases SY with ⟨e1,rfl⟩|⟨g,o,aJ,e1,g2,g3,g4,W,Q5⟩
  .have c:Hid (lZ d=(11,d)):=I (by
    have:d.bk=[]:=oD F.symm;unfold lZ;rw [a,this];rfl)
   cases e1;rw [a] at c4;clear h s r R F n m t x;rw [c.o];go_in;go_wp2_with fail;go_ret;exact ⟨_,_,rfl,N.o,Ks.refl _ _,λq C=>zR C⟩
  .cases e1;rcases List.eq_nil_or_concat Y with rfl|⟨E,HE,e⟩
   .have c:Hid (lZ d=(11,d)):=I (by
     have:d.bk=[]:=oD F.symm;unfold lZ;rw [a,this];rfl)
    rw [a] at c4;clear h s r R F n m t x W Q5;rw [c.o];go_in;go_wp2_with fail;go_ret;exact ⟨_,_,rfl,N.o,Ks.refl _ _,λq C=>zR C⟩
   .have he:nO w S Y d.bk:=⟨F,n⟩;obtain ⟨T,f,p⟩:∃ T f,d.bk=T++[f]:=by
     rcases List.eq_nil_or_concat d.bk with D|⟨b0,f,D⟩
     .rw [D,e] at F;simp at F
     .exact ⟨b0,f,by rw [D,List.concat_eq_append]⟩
    rw [List.concat_eq_append] at e;have hn:G Y=G E+1:=(by rw [e];simp);have us:Y[G E]?=A HE:=(by rw [e];simp);have Gx:d.bk[G E]?=A f:=(by rw [p];have:G E=G T:=(by rw [p,hn] at F;simp at F;exact F);rw [this];simp);obtain ⟨Q0,hr⟩:=n _ _ _ us Gx;have cx:=Q5 _ _ us;have c:Hid (lZ d=(0,{ d with fs:=f,bk:=T,ag:=d.ag++[d.fs] })):=I (by
     unfold lZ;rw [a,p];simp)
    rw [a] at c4;rw [c.o];have Ta:Hid (dA w (B (A (X g o)) (G E) v) E):=I (by
     have:dA w (B (A (X g o)) (G Y) v) Y:=zZ ⟨g,o,v,rfl,g2,g3,g4,W,Q5⟩;have:=this.take (k:=G E) (by omega);rw [show Y.take (G E)=E by rw [e];simp] at this;exact this)
    have Q6:Hid (nO w S E T):=I (by
     have:=he.take (G E);rw [show Y.take (G E)=E from (by rw [e];simp),show d.bk.take (G E)=T by
      have:G E=G T:=(by rw [p,hn] at F;simp at F;exact F);rw [p,this];simp] at this
     exact this)
    have hf:=I (show dA w (B aa (G H) ac) H/\nO w S H d.ag from ⟨m,t,x⟩);have HR:=I s;have HF:=I r;have HS:=I R;have HX:=I (show dU w HE f/\BS S HE from ⟨Q0,hr⟩);obtain ⟨-,M,QV,rfl,-⟩:=id Q0;obtain ⟨-,fa,fc,rfl,-⟩:=id r.1;have xE:G H<=1000:=by rw [t];exact h.len.2
    have a8:(G E:Int)<=1000:=by have ie:=h.len.1;rw [<- F,hn] at ie;exact a6.2 (Nat.le_of_succ_le ie)
    have an:Hid (∀ u,Ks (λq=>q=y) w (w.setCell (yh y) u)):=I λu=>(Ks.refl (λq=>q=y) w).set y 0 u rfl;have au:Hid (G T<=1000/\(d.ag++[d.fs]).length<=1000):=I ⟨by have:=h.len.1;rw [p] at this;simp at this;omega,by simp;omega⟩;have V:Hid (dA (w.setCell (yh y) (B M (G f) QV)) (B aa (G H) ac) H):=I (m.ks (an.o _) λq C e=>h.ny.2 (e▸C));have Ea:Hid (G H<=1000000):=I (by omega);obtain ⟨j,ak⟩:∃ j,Hid (H++[B fa (G d.fs) fc]=j):=⟨_,I rfl⟩;clear h s r R F n m t x he W Q5 us Gx Q0 hr;generalize (G Y)=ul at *;subst hn;go_in;go_wp2_with (at_builtin;refine tQ rfl (.tmp 51) (.tmp 52) rfl rfl rfl V.o Ea.o hf.o.2.one ?_;intro v1 w1 HH AH w2;apply Hid.o);obtain ⟨a1,l1,rfl,-,-⟩:=HH.len;have ar:=I HH;have vA:=I AH;have MB:=I w2;have Q4:Hid (w1.heap[y]?=A (zM #[B M (G f) QV,B (A (X g o)) (G E+1) v,B aa (G H) ac,J d.M,zF d.op,Z] 114 (0,0))):=I ((AH.block y (by simpa using hz)).t (ju HR.o).1);clear HH AH w2 c0 c1 c2 c3 c4 c5 z0 L O e' QT P;obtain ⟨⟨c0,c1,c2,c3,c4,c5⟩,⟨z0,L,O,e',QT,P⟩,a9⟩:=eC Q4.o;apply I;go_wp2_with (at_builtin;refine rL rfl (.tmp 54) (.tmp 56) rfl rfl (ar.o.next (bI _ _)) Ea.o rfl (bC w1 [B fa (G d.fs) fc] 111 0 _ rfl) rfl ?_;intro v2 z oQ sP l;apply Hid.o);rw [ak.o] at oQ;obtain ⟨U,hq,rfl,-,-⟩:=oQ.len;have TC:(B a1 (G H) l1).ownBlock≠A y:=λe=>iC _ (bG hz (by have:=MB.o y e;simpa using this));have wK:=I oQ;have am:=I sP;have ao:=I l;have ad:=I (sP.cells (tP Q4.o _) TC);clear oQ sP l c0 c1 c2 c3 c4 c5 z0 L O e' QT P;obtain ⟨⟨c0,c1,c2,c3,c4,c5⟩,⟨z0,L,O,e',QT,P⟩,bb⟩:=eC ad.o;apply I;go_wp2_with fail;go_ret;have hs:(w.setCell (yh y) (B M (G f) QV)).heap.size=w.heap.size:=(by simp);have ax:Ks (λq=>q=y) w z:=((((Ks.refl (λq=>q=y) w).set y 0 (B M (G f) QV) rfl).t (Ks.of vA.o)).alloc _).new am.o λq C=>hs▸MB.o q C;have i:Ks (λq=>q=y) w ((z.setCell (X y 1) (B (A (X g o)) (G E) v)).setCell (X y 2) (B U (G j) hq)):=(ax.set y 1 _ rfl).set y 2 _ rfl;have ay:Ks (λq=>q=y) z ((z.setCell (X y 1) (B (A (X g o)) (G E) v)).setCell (X y 2) (B U (G j) hq)):=((Ks.refl (λq=>q=y) z).set y 1 _ rfl).set y 2 _ rfl;have b:∀ q,(B U (G j) hq).ownBlock=A q->w.heap.size<=q:=λq C=>(by
      rcases ao.o with D|⟨g',D,av⟩
      .rw [D] at C;exact hs▸MB.o q C
      .rw [D] at C;rw [<- dp C];exact bf (bf (jD hs.symm) vA.o.size) (bf (bI w1 _).size av));have gs:∀ q,S q->¬ q=y:=λq C D=>N.o.nS q C (zR D);have xD:g≠y:=λD=>N.o.ny.1 (by rw [D];rfl);refine ⟨B (A (X g o)) (G E) v,B U (G j) hq,rfl,N.o.put (d':={ d with fs:=f,bk:=T,ag:=d.ag++[d.fs] }) (i.wide λq C=>zR C) (ju (ju ad.o).2.1).2.2.1 ⟨HX.o.1.ks i λq C=>gs q (HX.o.2 q C),HX.o.2⟩ ⟨HS.o.1.ks i λq C=>gs q (HS.o.2 q C),HS.o.2⟩ (pE.mk (Ta.o.ks i λq C D=>xD (by cases C;exact D)) (Q6.o.ks i gs)) (pE.mk (wK.o.ks ay λq C D=>iC _ (bG hz (D▸b q C))) ?_) rfl ?_ ?_ ?_,i.wide λq C=>zR C,?_⟩
    .have:=(hf.o.2.snoc HF.o.1 HF.o.2).ks i gs;rw [ak.o] at this;exact this
    .exact au.o
    .intro q C;refine ⟨λD=>xD (by cases C;exact D),λR=>N.o.nS q R (zZ (zR C)),λD=>?_⟩;have ie:=b q D;have h2:=N.o.CF q (zZ (zR C));exact iC _ (bG h2 ie)
    .intro q C;exact ⟨λD=>iC _ (bG hz (D▸b q C)),λR=>iC _ (bG (N.o.lt q R) (b q C))⟩
    .rintro q (rfl|C|C)
     .exact zR (zR rfl)
     .exact zR (zZ (zR C))
     .exact zZ (b q C)
 .have c:Hid (lZ d=(9,d)):=I (by unfold lZ;rw [aB a]);rw [a] at c4;clear h s r R SY F n m t x;rw [c.o];go_in;go_wp2_with fail;go_ret;exact ⟨_,_,rfl,N.o,Ks.refl _ _,λq C=>zR C⟩
def TD (h:dE w S y vb va d) (bw:G d.bk<=900):zC prog 124 #[zJ y,zF false] w (J3 S y vb va (l6 d) w):=by
 obtain ⟨vf,Z,t,s,N⟩:=h.row;obtain ⟨⟨c0,c1,c2,c3,c4,c5⟩,⟨z0,ie,oQ,Q6,Q5,U⟩,hz⟩:=eC t;obtain ⟨T,SY,H,n⟩:=h.ag;obtain ⟨M,c,x,z⟩:=h.bk;have L:=I h;obtain ⟨ba,r,rfl,bu,bv⟩:=SY.len;obtain ⟨aa,ac,rfl,br,bs⟩:=c.len;cases Y:d.op
 .rcases SY with ⟨e1,rfl⟩|⟨g,o,bn,e1,g2,g3,g4,g5,W⟩
  .have a:Hid (l6 d=(11,d)):=I (by
    have:d.ag=[]:=oD H.symm;unfold l6;rw [Y,this];rfl)
   cases e1;rw [Y] at c4;clear h t s N H n c x z;rw [a.o];go_in;go_wp2_with fail;go_ret;exact ⟨_,_,rfl,L.o,Ks.refl _ _,λq C=>zR C⟩
  .cases e1;rcases List.eq_nil_or_concat T with rfl|⟨F,HE,e⟩
   .have a:Hid (l6 d=(11,d)):=I (by
     have:d.ag=[]:=oD H.symm;unfold l6;rw [Y,this];rfl)
    rw [Y] at c4;clear h t s N H n c x z g5 W;rw [a.o];go_in;go_wp2_with fail;go_ret;exact ⟨_,_,rfl,L.o,Ks.refl _ _,λq C=>zR C⟩
   .have he:nO w S T d.ag:=⟨H,n⟩;obtain ⟨R,f,p⟩:∃ R f,d.ag=R++[f]:=by
     rcases List.eq_nil_or_concat d.ag with E|⟨b0,f,E⟩
     .rw [E,e] at H;simp at H
     .exact ⟨b0,f,by rw [E,List.concat_eq_append]⟩
    rw [List.concat_eq_append] at e;have hn:G T=G F+1:=(by rw [e];simp);have w2:T[G F]?=A HE:=(by rw [e];simp);have Gx:d.ag[G F]?=A f:=(by rw [p];have:G F=G R:=(by rw [p,hn] at H;simp at H;exact H);rw [this];simp);obtain ⟨Q4,hr⟩:=n _ _ _ w2 Gx;have cx:=W _ _ w2;have a:Hid (l6 d=(0,{ d with fs:=f,ag:=R,bk:=eI (d.bk++[d.fs]) d.M })):=I (by
     unfold l6;rw [Y,p];simp)
    rw [Y] at c4;rw [a.o];have Ta:Hid (dA w (B (A (X g o)) (G F) r) F):=I (by
     have:dA w (B (A (X g o)) (G T) r) T:=zZ ⟨g,o,r,rfl,g2,g3,g4,g5,W⟩;have:=this.take (k:=G F) (by omega);rw [show T.take (G F)=F by rw [e];simp] at this;exact this)
    have an:Hid (nO w S F R):=I (by
     have:=he.take (G F);rw [show T.take (G F)=F from (by rw [e];simp),show d.ag.take (G F)=R by
      have:G F=G R:=(by rw [p,hn] at H;simp at H;exact H);rw [p,this];simp] at this
     exact this)
    have hf:=I (show dA w (B aa (G M) ac) M/\nO w S M d.bk from ⟨c,x,z⟩);have HR:=I t;have HF:=I s;have HS:=I N;have HX:=I (show dU w HE f/\BS S HE from ⟨Q4,hr⟩);obtain ⟨-,QT,D,rfl,-⟩:=id Q4;obtain ⟨-,fa,fc,rfl,-⟩:=id s.1;have xE:G M<=1000:=by rw [x];exact h.len.1
    have bN:(G F:Int)<=1000:=by have h1:=h.len.2;rw [<- H,hn] at h1;exact a6.2 (Nat.le_of_succ_le h1)
    have au:Hid (∀ u,Ks (λq=>q=y) w (w.setCell (yh y) u)):=I λu=>(Ks.refl (λq=>q=y) w).set y 0 u rfl;have av:Hid ((eI (d.bk++[d.fs]) d.M).length<=1000/\G R<=1000):=I ⟨by unfold eI;rw [mG,b6];simp;omega,by have:=h.len.2;rw [p] at this;simp at this;omega⟩;have am:=I xE;have a5:Hid (dA (w.setCell (yh y) (B QT (G f) D)) (B aa (G M) ac) M):=I (c.ks (au.o _) λq C e=>h.ny.1 (e▸C));have P:Hid (G M<=1000000):=I (by omega);obtain ⟨b,us⟩:∃ b,Hid (M++[B fa (G d.fs) fc]=b):=⟨_,I rfl⟩;clear h t s N H n c x z he g5 W w2 Gx Q4 hr;generalize (G T)=ul at *;subst hn;go_in;go_wp2_with (at_builtin;refine tQ rfl (.tmp 51) (.tmp 52) rfl rfl rfl a5.o P.o hf.o.2.one ?_;intro v1 w1 i Q0 Ea;apply Hid.o);obtain ⟨a1,l1,rfl,-,-⟩:=i.len;have a3:=I i;have vA:=I Q0;have MB:=I Ea;have AH:Hid (w1.heap[y]?=A (zM #[B QT (G f) D,B aa (G M) ac,B (A (X g o)) (G F+1) r,J d.M,zF d.op,Z] 114 (0,0))):=I ((Q0.block y (by simpa using hz)).t (ju HR.o).1);clear i Q0 Ea c0 c1 c2 c3 c4 c5 z0 ie oQ Q6 Q5 U;obtain ⟨⟨c0,c1,c2,c3,c4,c5⟩,⟨z0,ie,oQ,Q6,Q5,U⟩,bO⟩:=eC AH.o;apply I;go_wp2_with (at_builtin;refine rL rfl (.tmp 54) (.tmp 56) rfl rfl (a3.o.next (bI _ _)) P.o rfl (bC w1 [B fa (G d.fs) fc] 111 0 _ rfl) rfl ?_;intro v2 m gs sP l;apply Hid.o);rw [us.o] at gs;obtain ⟨a2,l2,rfl,-,-⟩:=gs.len;have TC:(B a1 (G M) l1).ownBlock≠A y:=λe=>iC _ (bG hz (by have:=MB.o y e;simpa using this));have wK:=I gs;have ar:=I sP;have aJ:=I l;have ad:=I (sP.cells (tP AH.o _) TC);clear gs sP l c0 c1 c2 c3 c4 c5 z0 ie oQ Q6 Q5 U;obtain ⟨⟨c0,c1,c2,c3,c4,c5⟩,⟨z0,ie,oQ,Q6,Q5,U⟩,bS⟩:=eC ad.o;have e':(w.setCell (yh y) (B QT (G f) D)).heap.size=w.heap.size:=(by simp);have QV:Hid (∀ q,(B a2 (G b) l2).ownBlock=A q->w.heap.size<=q):=I λq C=>(by
      rcases aJ.o with E|⟨g',E,bb⟩
      .rw [E] at C;exact e'▸MB.o q C
      .rw [E] at C;rw [<- dp C];exact bf (bf (jD e'.symm) vA.o.size) (bf (bI w1 _).size bb));have ay:Hid (∀ q,(B a2 (G b) l2).ownBlock=A q->¬ q=y):=I λq C E=>iC _ (bG hz (E▸QV.o q C));have ak:Hid (Ks (λq=>q=y) m (m.setCell (X y 2) (B (A (X g o)) (G F) r))):=I ((Ks.refl (λq=>q=y) m).set y 2 _ rfl);have a8:=I (wK.o.ks ak.o ay.o);have ax:=I L.o.M6;have ao:Hid (G b<=1000000):=I (by rw [<- us.o,b6];have:=am.o;simp;omega);have a9:=I (ju (x:=B (A (X g o)) (G F) r) ad.o).2.2.1;clear e';apply I;go_wp2_with (go_at_call 153;refine mo (ER d.M ax.o a8.o ao.o) ?_;rintro e w3 ⟨v3,rfl,rfl,v,O⟩);obtain ⟨V,HH,rfl,-,-⟩:=v.len;have a4:=I v;have a0:=I O;clear v O;apply I;go_wp2_with fail;go_ret;have e':(w.setCell (yh y) (B QT (G f) D)).heap.size=w.heap.size:=(by simp);have bj:Ks (λq=>q=y) w m:=((((Ks.refl (λq=>q=y) w).set y 0 (B QT (G f) D) rfl).t (Ks.of vA.o)).alloc _).new ar.o λq C=>e'▸MB.o q C;have j:Ks (λq=>q=y) w ((m.setCell (X y 2) (B (A (X g o)) (G F) r)).setCell (X y 1) (B V (eI b d.M).length HH)):=(bj.set y 2 _ rfl).set y 1 _ rfl;have bl:Ks (λq=>q=y) (m.setCell (X y 2) (B (A (X g o)) (G F) r)) ((m.setCell (X y 2) (B (A (X g o)) (G F) r)).setCell (X y 1) (B V (eI b d.M).length HH)):=(Ks.refl (λq=>q=y) _).set y 1 _ rfl;have hq:∀ q,(B V (eI b d.M).length HH).ownBlock=A q->w.heap.size<=q:=λq C=>QV.o q (a0.o▸C);have hs:∀ q,S q->¬ q=y:=λq C E=>L.o.nS q C (zR E);have xD:g≠y:=λE=>L.o.ny.2 (by rw [E];rfl);refine ⟨B V (eI b d.M).length HH,B (A (X g o)) (G F) r,rfl,L.o.put (d':={ d with fs:=f,ag:=R,bk:=eI (d.bk++[d.fs]) d.M }) (j.wide λq C=>zR C) (ju a9.o).2.1 ⟨HX.o.1.ks j λq C=>hs q (HX.o.2 q C),HX.o.2⟩ ⟨HS.o.1.ks j λq C=>hs q (HS.o.2 q C),HS.o.2⟩ (pE.mk (a4.o.ks bl λq C E=>iC _ (bG hz (E▸hq q C))) ?_) (pE.mk (Ta.o.ks j λq C E=>xD (by cases C;exact E)) (an.o.ks j hs)) rfl ?_ ?_ ?_,j.wide λq C=>zR C,?_⟩
    .have:=((hf.o.2.snoc HF.o.1 HF.o.2).ks j hs).last d.M;rw [us.o] at this;exact this
    .exact av.o
    .intro q C;refine ⟨λE=>iC _ (bG hz (E▸hq q C)),λN=>iC _ (bG (L.o.lt q N) (hq q C)),λE=>?_⟩;have h1:=hq q C;have h2:=L.o.CF q (zZ (zZ (by cases E;rfl)));exact iC _ (bG h2 h1)
    .intro q C;exact ⟨λE=>xD (by cases C;exact E),λN=>L.o.nS q N (zZ (zZ (by cases C;rfl)))⟩
    .rintro q (rfl|C|C)
     .exact zR (zR rfl)
     .exact zZ (hq q C)
     .exact zR (zZ (zZ (by cases C;rfl)))
 .have a:Hid (l6 d=(9,d)):=I (by unfold l6;rw [aB Y]);rw [Y] at c4;clear h t s N SY H n c x z;rw [a.o];go_in;go_wp2_with fail;go_ret;exact ⟨_,_,rfl,L.o,Ks.refl _ _,λq C=>zR C⟩
variable {SX va':zV} {Z:List (List RF)}
def uQ (d:De):Nat × De:=if d.op=true then (9,d) else (0,Hl d)
def qK (d:De):Nat × De:=if d.op=true then (0,rN d) else (10,d)
def qL (d:De):Nat × De:=if d.op=true then (0,CG { d with sv:=[],op:=false } d.sv) else (10,d)
def O0 (h:dE w S y vb va d) (a:G d.ag<=900):zC prog 85 #[zJ y,Q ([117,110,100,111]:By)] w (J3 S y vb va (lZ d) w):=by
 have D:=I (TB h a);clear h;go_in;go_wp2_with (go_at_call 124;refine D.o.m ?_;rintro e F ⟨SX,va',rfl,C⟩;have E:=I C;clear C);go_ret;exact ⟨SX,va',rfl,E.o⟩
def O1 (h:dE w S y vb va d) (a:G d.bk<=900):zC prog 85 #[zJ y,Q ([114,101,100,111]:By)] w (J3 S y vb va (l6 d) w):=by
 have D:=I (TD h a);clear h;go_in;go_wp2_with (go_at_call 124;refine D.o.m ?_;rintro e F ⟨SX,va',rfl,C⟩;have E:=I C;clear C);go_ret;exact ⟨SX,va',rfl,E.o⟩
def J4 (h:dE w S y vb va d):zC prog 85 #[zJ y,Q ([98,101,103,105,110]:By)] w (J3 S y vb va (uQ d) w):=by
 obtain ⟨l,k,D,C,L⟩:=h.row;obtain ⟨⟨c0,c1,c2,c3,c4,c5⟩,⟨z0,o,m,j,f,g⟩,i⟩:=eC D;have E:=I h;have b:=I D;have a:=I C;obtain ⟨-,e,n,rfl,-⟩:=id C.1;unfold uQ;cases F:d.op
 .rw [F] at c4;have c:=I F;clear h D C L;go_in;go_wp2_with fail;go_ret;exact ⟨vb,va,rfl,(E.o.J1 (d':=Hl d) (((Ks.refl (λq=>q=y) w).set y 4 _ rfl).set y 5 _ rfl) (ju (ju b.o).2.2.2.1).2.2.2.2 a.o a.o rfl rfl rfl).1,(E.o.J1 (d':=Hl d) (((Ks.refl (λq=>q=y) w).set y 4 _ rfl).set y 5 _ rfl) (ju (ju b.o).2.2.2.1).2.2.2.2 a.o a.o rfl rfl rfl).2,λq H=>zR H⟩
 .rw [F] at c4;clear h D C L;go_in;go_wp2_with fail;go_ret;exact ⟨vb,va,rfl,E.o,Ks.refl _ _,λq H=>zR H⟩
def Hm (h:dE w S y vb va d):zC prog 85 #[zJ y,Q ([99,97,110,99,101,108]:By)] w (J3 S y vb va (qK d) w):=by
 obtain ⟨l,k,D,E,H⟩:=h.row;obtain ⟨⟨c0,c1,c2,c3,c4,c5⟩,⟨z0,n,m,j,f,g⟩,i⟩:=eC D;have L:=I h;have c:=I (uP h);unfold qK;cases F:d.op
 .rw [F] at c4;clear h D E H;go_in;go_wp2_with fail;go_ret;exact ⟨vb,va,rfl,L.o,Ks.refl _ _,λq C=>zR C⟩
 .rw [F] at c4;clear h D E H;go_in;go_wp2_with (go_at_call 82;refine c.o.m ?_;rintro e M ⟨rfl,a⟩;have b:=I a;clear a);go_ret;exact ⟨vb,va,rfl,b.o.1,b.o.2,λq C=>zR C⟩
def Hn (h:dE w S y vb va d) (f:G d.bk<=900):zC prog 85 #[zJ y,Q ([99,111,109,109,105,116]:By)] w (J3 S y vb va (qL d) w):=by
 obtain ⟨z,x,E,F,D⟩:=h.row;obtain ⟨⟨c0,c1,c2,c3,c4,c5⟩,⟨z0,s,r,p,t,u⟩,v⟩:=eC E;have L:=I h;have n:=I E;have M:=I D;have o:=I F;obtain ⟨-,m,N,rfl,-⟩:=id D.1;unfold qL;cases H:d.op
 .rw [H] at c4;clear h E F D;go_in;go_wp2_with fail;go_ret;exact ⟨vb,va,rfl,L.o,Ks.refl _ _,λq C=>zR C⟩
 .rw [H] at c4;have i:Ks (λq=>q=y) w ((w.setCell (X y 5) (zN)).setCell (X y 4) (zF false)):=((Ks.refl (λq=>q=y) w).set y 5 _ rfl).set y 4 _ rfl;have c:=h.J1 (d':={ d with sv:=[],op:=false }) i (ju (ju E).2.2.2.2).2.2.2.1 F ⟨jS,Bf⟩ rfl rfl rfl;have j:=I c.2;have l:=I (ES c.1 (D.1.ks i λq C e=>h.nS q (D.2 q C) (zR e)) D.2 f);clear h E F D c i;go_in;go_wp2_with (go_at_call 118;refine l.o.m ?_;rintro e R ⟨SX,rfl,a⟩;have b:=I a;clear a);go_ret;refine ⟨SX,_,rfl,b.o.1,j.o.t b.o.2.1,?_⟩;rintro q (rfl|C|C)
  .exact zR (zR rfl)
  .rcases b.o.2.2 with e|⟨g,e,k⟩
   .exact zR (zZ (zR (e▸C)))
   .rw [e] at C;rw [<- dp C];exact zZ (bf j.o.size k)
  .cases C
def vR (x:By × Int × Nat × Bool):List By:=x.1::(List.replicate x.2.2.1 cE++if x.2.2.2=true then [[61],aH 82 0] else [])
def yV (L:List By) (w:zW) (r:Ending) (w':zW):Prop:=∃ g c,r=zP (zS g (G L) c)/\ll w' (zS g (G L) c) L/\zB w w'
def jb (w:zW) (L:List By) (a:L≠[]):ll (w.alloc (zM (ab L).toArray 9)) (zS w.heap.size (G L) (G L)) L:=by
 refine zZ ⟨a,_,_,rfl,aG _,λj C=>?_⟩;exact bC w (ab L) 9 j _ (by unfold ab;rw [kn,cU C];rfl)
def O5:zC prog 52 #[Q ([115,101,116]:By)] w (yV [[115,101,116],cE,[61],aH 82 0] w):=by
 have a:=I (jb w [[115,101,116],cE,[61],aH 82 0] (by simp));go_in;go_wp2_with fail;go_ret;exact ⟨w.heap.size,4,rfl,a.o,bI _ _⟩
def Ee:zC prog 52 #[Q ([100,101,108,101,116,101]:By)] w (yV [[100,101,108,101,116,101],cE] w):=by
 have C:=I (jb w [[100,101,108,101,116,101],cE] (by simp));go_in;go_wp2_with fail;go_ret;exact ⟨w.heap.size,2,rfl,C.o,bI _ _⟩
def Ef:zC prog 52 #[Q ([114,101,110,97,109,101]:By)] w (yV [[114,101,110,97,109,101],cE,cE] w):=by
 have a:=I (jb w [[114,101,110,97,109,101],cE,cE] (by simp));go_in;go_wp2_with fail;go_ret;exact ⟨w.heap.size,3,rfl,a.o,bI _ _⟩
def Hq:zC prog 52 #[Q ([98,101,103,105,110]:By)] w (yV [[98,101,103,105,110]] w):=by
 have C:=I (jb w [[98,101,103,105,110]] (by simp));go_in;go_wp2_with fail;go_ret;exact ⟨w.heap.size,1,rfl,C.o,bI _ _⟩
def Eg:zC prog 52 #[Q ([99,111,109,109,105,116]:By)] w (yV [[99,111,109,109,105,116]] w):=by
 have C:=I (jb w [[99,111,109,109,105,116]] (by simp));go_in;go_wp2_with fail;go_ret;exact ⟨w.heap.size,1,rfl,C.o,bI _ _⟩
def Eh:zC prog 52 #[Q ([99,97,110,99,101,108]:By)] w (yV [[99,97,110,99,101,108]] w):=by
 have C:=I (jb w [[99,97,110,99,101,108]] (by simp));go_in;go_wp2_with fail;go_ret;exact ⟨w.heap.size,1,rfl,C.o,bI _ _⟩
def J8:zC prog 52 #[Q ([117,110,100,111]:By)] w (yV [[117,110,100,111]] w):=by
 have C:=I (jb w [[117,110,100,111]] (by simp));go_in;go_wp2_with fail;go_ret;exact ⟨w.heap.size,1,rfl,C.o,bI _ _⟩
def J9:zC prog 52 #[Q ([114,101,100,111]:By)] w (yV [[114,101,100,111]] w):=by
 have C:=I (jb w [[114,101,100,111]] (by simp));go_in;go_wp2_with fail;go_ret;exact ⟨w.heap.size,1,rfl,C.o,bI _ _⟩
def Hr:zC prog 52 #[Q ([118,97,108,117,101]:By)] w (yV [[118,97,108,117,101],cE] w):=by
 have C:=I (jb w [[118,97,108,117,101],cE] (by simp));go_in;go_wp2_with fail;go_ret;exact ⟨w.heap.size,2,rfl,C.o,bI _ _⟩
def Ka:zC prog 52 #[Q ([114,117,108,101]:By)] w (yV [[114,117,108,101],cE] w):=by
 have C:=I (jb w [[114,117,108,101],cE] (by simp));go_in;go_wp2_with fail;go_ret;exact ⟨w.heap.size,2,rfl,C.o,bI _ _⟩
def Kb:zC prog 52 #[Q ([108,105,115,116]:By)] w (yV [[108,105,115,116]] w):=by
 have C:=I (jb w [[108,105,115,116]] (by simp));go_in;go_wp2_with fail;go_ret;exact ⟨w.heap.size,1,rfl,C.o,bI _ _⟩
def Hs:zC prog 52 #[Q ([111,114,100,101,114]:By)] w (yV [[111,114,100,101,114]] w):=by
 have C:=I (jb w [[111,114,100,101,114]] (by simp));go_in;go_wp2_with fail;go_ret;exact ⟨w.heap.size,1,rfl,C.o,bI _ _⟩
def TK (t:By) (h:∀ x∈aQ,t≠x.1):zC prog 52 #[Q t] w λr w'=>r=zP (zN)/\w'=w:=by
 have d:(t == [115,101,116])=false:=bo.2 (h (aQ[0]) (bt _));have e1:(t == [100,101,108,101,116,101])=false:=bo.2 (h (aQ[1]) (bt _));have c:(t == [114,101,110,97,109,101])=false:=bo.2 (h (aQ[2]) (bt _));have k:(t == [98,101,103,105,110])=false:=bo.2 (h (aQ[3]) (bt _));have l:(t == [99,111,109,109,105,116])=false:=bo.2 (h (aQ[4]) (bt _));have f:(t == [99,97,110,99,101,108])=false:=bo.2 (h (aQ[5]) (bt _));have g:(t == [117,110,100,111])=false:=bo.2 (h (aQ[6]) (bt _));have e:(t == [114,101,100,111])=false:=bo.2 (h (aQ[7]) (bt _));have i:(t == [118,97,108,117,101])=false:=bo.2 (h (aQ[8]) (bt _));have j:(t == [114,117,108,101])=false:=bo.2 (h (aQ[9]) (bt _));have b:(t == [108,105,115,116])=false:=bo.2 (h (aQ[10]) (bt _));have a:(t == [111,114,100,101,114])=false:=bo.2 (h (aQ[11]) (bt _));clear h;go_in;go_wp2_with fail;go_ret;exact ⟨rfl,rfl⟩
def TM (x:By × Int × Nat × Bool) (a:x∈aQ):zC prog 52 #[Q x.1] w (yV (vR x) w):=by
 simp only [aQ,bQ,jA,iK] at a;rcases a with rfl|rfl|rfl|rfl|rfl|rfl|rfl|rfl|rfl|rfl|rfl|rfl
 .exact O5
 .exact Ee
 .exact Ef
 .exact Hq
 .exact Eg
 .exact Eh
 .exact J8
 .exact J9
 .exact Hr
 .exact Ka
 .exact Kb
 .exact Hs
end
section
variable {len:Nat} {K:List (By × Nat)} {vb:Int} {n:Nat} {rl:Bool} {r:tR} {i q:Nat} {QT:List By}
def ET {t x:By} (h:ej t=x) (a:x≠[]):t=x:=by
 unfold ej at h;split at h
 .exact absurd h.symm a
 .rename_i b;unfold eh at h;rw [aA b] at h;split at h
  .exact absurd h.symm a
  .exact h
def wT:cF len (q+1) (cE::QT) (K.drop i)=if bm (aw K i)=true then cF len q QT (K.drop (i+1)) else A (3,eF len K i):=by
 rw [cP len q _ QT _ (aw K i) (eF len K i) (l7 len K i),aA (by decide),show dT cE (aw K i)=none from jl 78 _ _ (by decide)];simp only [jq,List.tail_drop]
def CH (h:fV K) (a:i<G K):∃ k:Nat,ij (aw K i) k/\fU (aw K i)=(k:Int):=by
 have d:(K[i].1,K[i].2)∈K:=bt a;obtain ⟨⟨b,c,r,e,_⟩,_⟩:=h _ _ d;rw [eY K i a];exact Kc _ b (by rw [e];simp)
def mS {t:By} (h:bm t=true):ij t 2:=by
 refine zZ (zR ⟨?_,h,rfl⟩);unfold bm at h;rw [qA] at h;cases t with
 | nil=>rfl
 | cons c r=>
  have a:fF c=true:=h.1;exact Bg a
def dh (h:fV K) (i:Nat):kN K i=2↔bm (aw K i)=true:=by
 unfold kN;by_cases a:i<G K
 .rw [aB a];obtain ⟨k,b,d⟩:=CH h a;rw [d];refine ⟨λe=>?_,λe=>?_⟩
  .have c:k=2:=(by omega);subst c;rcases b with ⟨_,h⟩|⟨_,h,_⟩|⟨_,h⟩|h
   .omega
   .exact h
   .omega
   .exfalso;revert h;simp [eb]
  .have:=oy _ _ _ b (mS e);omega
 .rw [aA a,kV K i (by omega)];decide
def gn (h:fV K) (i:Nat):kN K i=18↔aw K i=[61]:=by
 unfold kN;by_cases a:i<G K
 .rw [aB a];obtain ⟨k,c,b⟩:=CH h a;rw [b,<- cQ [61] 18 (by decide) _ k c];omega
 .rw [aA a,kV K i (by omega)];decide
def rh (h:fV K) (i:Nat):kN K i=0↔(G K)<=i:=by
 unfold kN;by_cases a:i<G K
 .rw [aB a];obtain ⟨k,b,g⟩:=CH h a;rw [g];refine ⟨λe=>?_,λe=>by omega⟩;exfalso;have f:k=0:=(by omega);subst f;have d:(K[i].1,K[i].2)∈K:=bt a;obtain ⟨⟨_,c,r,e,_⟩,_⟩:=h _ _ d;rw [eY K i a,e] at b;rcases b with ⟨_,h⟩|⟨_,_,h⟩|⟨h,_⟩|h
  .omega
  .omega
  .cases h
  .revert h;simp [eb]
 .rw [aA a];simp;omega
def CI (h:fV K):∀ (n s:Nat),(∀ i,i<n->kN K (s+i)=2)->cF len (q+n) (List.replicate n cE++QT) (K.drop s)=cF len q QT (K.drop (s+n))
 | 0,s,_=>rfl
 | n+1,s,C=>by
  rw [BC,gT,show q+(n+1)=q+n+1 by omega,wT,aB ((dh h s).1 (C 0 (by omega)))];rw [CI h n (s+1) λi a=>by have:=C (i+1) (by omega);rwa [show s+1+i=s+(i+1) by omega]];rw [show s+1+n=s+(n+1) by omega]
def Ae (h:fV K):∀ (n s j:Nat),j<n->(∀ i,i<j->kN K (s+i)=2)->kN K (s+j)≠2->cF len (q+n) (List.replicate n cE++QT) (K.drop s)=A (3,eF len K (s+j))
 | 0,s,j,b,_,_=>by omega
 | n+1,s,0,_,_,a=>by
  rw [BC,gT,show q+(n+1)=q+n+1 by omega,wT,aA (λe=>a ((dh h s).2 e))];rfl
 | n+1,s,j+1,b,C,a=>by
  rw [BC,gT,show q+(n+1)=q+n+1 by omega,wT,aB ((dh h s).1 (C 0 (by omega)))];rw [Ae h n (s+1) j (by omega) (λi c=>by have:=C (i+1) (by omega);rwa [show s+1+i=s+(i+1) by omega]) (by rwa [show s+1+j=s+(j+1) by omega])];rw [show s+1+j=s+(j+1) by omega]
def rm (K:List (By × Nat)) (rl:Bool) (C:Int × Nat):tR->Prop
 | .err _ D p=>(D=C.1/\p=C.2/\D≠0)\/(D=7/\p=0/\C=(0,0)/\rl=true/\4<=G K/\100<(bV (K.drop 3) (K.drop 3).length).length)
 | .ok _ _ _=>C=(0,0)/\(rl=true->4<=G K/\¬ 100<(bV (K.drop 3) (K.drop 3).length).length)
def TN (h:fV K) (x:By × Int × Nat × Bool) (H:x∈aQ) (Q4:aw K 0=x.1) (m:mZ len K x.2.1 x.2.2.1 x.2.2.2 r):∃ O z,z<=1000010/\cF len z (vR x) K=A O/\rm K x.2.2.2 O r:=by
 obtain ⟨l,vb,n,rl⟩:=x;simp only at Q4 m ⊢;have o:Tk l:=by
  have d:∀ x∈aQ,∃ c r,x.1=c::r/\c≠63/\c::r≠cE:=(by intro x H;simp only [aQ,bQ,jA,iK] at H;rcases H with rfl|rfl|rfl|rfl|rfl|rfl|rfl|rfl|rfl|rfl|rfl|rfl<;>exact ⟨_,_,rfl,by decide,by decide⟩);exact d _ H
 have y:rl=true->n=1:=by
  have d:∀ x∈aQ,x.2.2.2=true->x.2.2.1=1:=(by decide);exact d _ H
 have E:n<=2:=(iT _ H).2;have start:∀ q QT,cF len (q+1) (l::QT) K=cF len q QT (K.drop 1):=λq QT=>by
  have:=mU len K l 0 q QT o Q4;simpa using this
 unfold vR;simp only;rcases m with ⟨j,D,v,u,rfl⟩|⟨v,m⟩
 .refine ⟨(3,eF len K (1+j)),0+n+1,by omega,?_,zR ⟨rfl,rfl,by decide⟩⟩;rw [start,Ae h n 1 j D v u]
 .have L:∀ q QT,cF len (q+n+1) (l::(List.replicate n cE++QT)) K=cF len q QT (K.drop (1+n)):=λq QT=>by
   rw [start,CI h n 1 v]
  rcases m with ⟨rfl,f,rfl⟩|⟨rfl,f,rfl⟩|⟨rfl,f,rfl⟩|⟨rfl,f,N,p,s,C,i,a⟩
  .have k:=CJ f;refine ⟨(3,eF len K (1+n)),1+n+1,by omega,?_,zR ⟨rfl,rfl,by decide⟩⟩;rw [aA (by simp),L];rcases l7 len K (1+n) with ⟨e,_⟩|⟨r,e⟩
   .exfalso;have:=eL List.length e;rw [mG] at this;simp at this;omega
   .rw [e];rfl
  .have g:=(rh h _).1 f;refine ⟨(0,0),1+n+1,by omega,?_,rfl,λe=>by cases e⟩;rw [aA (by simp),L,nY g];rfl
  .refine ⟨(3,eF len K (1+n)),1+n+1,by omega,?_,zR ⟨rfl,rfl,by decide⟩⟩;rw [aB rfl,L];exact xO len K [61] (1+n) 0 _ ⟨61,[],rfl,by decide,by decide⟩ λe=>f ((gn h _).2 e)
  .have w:=(gn h _).1 f;have b:cF len (s+1+n+1) (l::(List.replicate n cE++[[61],aH 82 0])) K=A (N,p):=by
    rw [L,mU len K [61] (1+n) s _ ⟨61,[],rfl,by decide,by decide⟩ w,show 1+n+1=2+n by omega];exact i
   have e1:=y rfl;subst e1;refine ⟨(N,p),s+1+1+1,by omega,?_,?_⟩
   .rw [aB rfl];exact b
   .rcases a with ⟨a,rfl⟩|⟨rfl,rfl,a,rfl⟩|⟨rfl,rfl,t,a,F,M,rfl⟩
    .exact zR ⟨rfl,rfl,a⟩
    .refine zZ ⟨rfl,rfl,rfl,rfl,?_,a⟩;rcases cC 3 (G K) with k|g
     .exact k
     .rw [nY (by omega)] at a;exact absurd a (by decide)
    .refine ⟨rfl,λ_=>⟨?_,?_⟩⟩
     .have:=a.lt;rw [mG] at this;omega
     .rw [F] at M;exact M
end
section
attribute [local go_sem] ap aq
variable {w w' W:zW} {s:By} {r:tR}
def ik (a:Int):By:=match aQ.find? (λx=>x.2.1 == a) with|some x=>x.1|none=>[]
def gE:tR->Int|.err _ er _=>er|.ok _ _ _=>0
def gN:tR->Nat|.err _ _ p=>p|.ok _ _ _=>0
def eg:tR->By|.err vb _ _=>ik vb|.ok vb _ _=>ik vb
def Kd:∀ x∈aQ,ik x.2.1=x.1:=by decide
def TP (s:By) (r:tR) (w:zW) (e:Ending) (w':zW):Prop:=
 ∃ C,e=zP (zp #[C,J (gE r),J (gN r:Int),Q (eg r)])/\zB w w'/\(∀ b a t,r=.ok b a t->ea w' C (aI s).1/\∀ q,C.ownBlock=A q->w.heap.size<=q)
def rn (W:zW):(binOp .eql 24 (zN) (zN)).run prog W=.ok (zF true) W:=by kernel_rfl
def O6 (a:120<G s):zC prog 36 #[Q s] w (TP s (.err 0 1 0) w):=by
 have b:(120:Int)<(G s:Int):=iD.2 a;go_in;go_wp2_with fail;refine aK (v:=zp #[zN,J 1,J 0,Q []]) (by simp [results,results36,go_sem]) rfl ?_;exact ⟨_,rfl,aM _ _,λc d t e=>by cases e⟩
def TQ (i:G s<=120) (p:Nat) (b:(aI s).2=A p):zC prog 36 #[Q s] w (TP s (.err 0 2 p) w):=by
 have f:¬ (120:Int)<(G s:Int):=(by omega);have h:=I b;have g:Hid (G s<=1000):=I (by omega);have d:(0:Int)<=(p:Int):=mF p;clear b;go_in;go_wp2_with (go_at_call 51;refine (vS s _ p g.o h.o).m ?_;rintro e C ⟨rfl,a⟩;have c:=I a;clear a);refine aK (v:=zp #[zN,J 2,J p,Q []]) (by simp [results,results36,go_sem]) rfl ?_;exact ⟨_,rfl,c.o,λk j t e=>by cases e⟩
def O7 (l:G s<=120) (c:aI s=([],none)):zC prog 36 #[Q s] w (TP s (.err 0 3 (G s)) w):=by
 have g:¬ (120:Int)<(G s:Int):=(by omega);have f:=I c;have h:Hid (G s<=1000):=I (by omega);clear c;go_in;go_wp2_with (go_at_call 51;refine mo (iU s _ [] h.o f.o) ?_;rintro e C ⟨v,rfl,a,b⟩);obtain ⟨j,i,rfl,-⟩:=pQ a;have d:=I b;clear a b;apply I;go_wp2_with fail;refine aK (v:=zp #[zN,J 3,J (G s),Q []]) (by simp [results,results36,go_sem]) rfl ?_;exact ⟨_,rfl,d.o,λm k t e=>by cases e⟩
def O8 (z:G s<=120) {K:List (By × Nat)} (D:aI s=(K,none)) (d:0<G K) (h:∀ x∈aQ,aw K 0≠x.1):zC prog 36 #[Q s] w (TP s (.err 0 3 (eF (G s) K 0)) w):=by
 have m:¬ (120:Int)<(G s:Int):=(by omega);have l:=I D;have k:Hid (G s<=1000):=I (by omega);have u:(0:Int)<(G K:Int):=iD.2 d;have j:(G K:Int)<=1000:=by
  have y:G K<=G s:=(by have:=fT (G s) s 0;rw [show bW (G s) s 0=(K,none) from D] at this;exact this);omega
 have n:=I (λW=>TK (w:=W) (aw K 0) h);have f:Hid (eF (G s) K 0=K[0].2):=I (by unfold eF;rw [cU d]);clear D h;go_in;go_wp2_with (go_at_call 51;refine mo (iU s _ K k.o l.o) ?_;rintro e H ⟨v,rfl,a,c⟩);obtain ⟨C,q,rfl,b⟩:=pQ a;obtain ⟨g,rfl,c0,c1⟩:=b 0 d;have o:=I c;rw [<- eY K 0 d] at c0;rw [<- f.o] at c1;simp only [jC,cS] at c0 c1;clear a c b f;generalize aw K 0=t at *;generalize eF (G s) K 0=p at *;have r:((G K:Int) == 0)=false:=bo.2 (λe=>by omega);apply I;go_wp2_with (go_at_call 52;refine mo (n.o _) ?_;rintro e L ⟨rfl,rfl⟩);have i:=rn;apply I;go_wp2_with fail
 go_quiet (fail)
 go_wp2_with fail;refine aK (v:=zp #[zN,J 3,J p,Q []]) (by simp [results,results36,go_sem]) rfl ?_;exact ⟨_,rfl,lG o.o _,λE F t e=>by cases e⟩
variable {K:List (By × Nat)}
def rt (W:zW) (a:zD) (n c:Nat):(binOp .eql 24 (B (A a) n c) (zN)).run prog W=.ok (zF false) W:=Lib.run_eql_slice_some_nil W a n c underlying24
def TR {len:Nat} {a:Int} {n:Nat} {c:Bool} (h:mZ len K a n c r):(∃ C p,r=.err a C p)\/(∃ b t,r=.ok a b t):=by
 rcases h with ⟨_,_,_,_,rfl⟩|⟨_,⟨_,_,rfl⟩|⟨_,_,rfl⟩|⟨_,_,rfl⟩|⟨_,_,_,_,_,_,_,⟨_,rfl⟩|⟨_,_,_,rfl⟩|⟨_,_,_,_,_,_,rfl⟩⟩⟩
 .exact zR ⟨_,_,rfl⟩
 .exact zR ⟨_,_,rfl⟩
 .exact zZ ⟨_,_,rfl⟩
 .exact zR ⟨_,_,rfl⟩
 .exact zR ⟨_,_,rfl⟩
 .exact zR ⟨_,_,rfl⟩
 .exact zZ ⟨_,_,rfl⟩
def EU:∀ x∈aQ,Ht (vR x)/\(vR x).length<=10:=by
 have b:∀ x∈aQ,∃ c r,x.1=c::r/\c≠63/\c::r≠cE:=(by intro x C;simp only [aQ,bQ,jA,iK] at C;rcases C with rfl|rfl|rfl|rfl|rfl|rfl|rfl|rfl|rfl|rfl|rfl|rfl<;>exact ⟨_,_,rfl,by decide,by decide⟩);intro x C;obtain ⟨c,r,e,d,f⟩:=b x C;refine ⟨λy a=>?_,?_⟩
 .unfold vR at a;rcases bQ.1 a with rfl|a
  .exact zR (zR ⟨c,r,e,d,f⟩)
  .rcases cG.1 a with a|a
   .exact zZ (List.eq_of_mem_replicate a)
   .split at a
    .simp only [bQ,jA,iK] at a;rcases a with rfl|rfl
     .exact zR (zR ⟨61,[],rfl,by decide,by decide⟩)
     .exact zR (zZ (zZ (zZ ⟨82,0,by decide,by decide,rfl⟩)))
    .simp at a
 .have:=(iT x C).2;unfold vR;rw [gS,b6,List.length_replicate];split<;>simp<;>omega
def TS {x:By × Int × Nat × Bool} {vt:zV} (c:x∈aQ) (b:(∃ C p,r=.err x.2.1 C p)\/(∃ a t,r=.ok x.2.1 a t)):eg r=x.1:=by
 rcases b with ⟨C,p,rfl⟩|⟨a,t,rfl⟩<;>exact Kd x c
def O9 (hl:G s<=120) (C:aI s=(K,none)) (x:By × Int × Nat × Bool) (H:x∈aQ) (S:aw K 0=x.1) (v:mZ (G s) K x.2.1 x.2.2.1 x.2.2.2 r):zC prog 36 #[Q s] w (TP s r w):=by
 have h0:fV K:=(by have:=xI s;rw [C] at this;exact this);obtain ⟨h4,n1,wR,hp,Q0⟩:=TN h0 x H S v;have HB:=TS (vt:=zF true) H (TR v);have ht:∀ x∈aQ,(x.2.2.2=true->x.1=[115,101,116])/\(x.2.2.2=false->(x.1 == [115,101,116])=false):=(by decide);have z:=ht x H;have m:0<G K:=bP S (by have:=(iT x H).1;exact this);have ax:¬ (120:Int)<(G s:Int):=(by omega);have HT:=I C;have HL:Hid (G s<=1000):=I (by omega);have a1:(0:Int)<(G K:Int):=iD.2 m;have TT:G K<=1000:=by
  have h':G K<=G s:=(by have:=fT (G s) s 0;rw [show bW (G s) s 0=(K,none) from C] at this;exact this);omega
 have ar:(G K:Int)<=1000:=a6.2 TT;have HG:Hid (∀ t p,(t,p)∈K.drop 3->t≠[]/\G t<=19):=I λt p hm=>by
  obtain ⟨⟨N,au,r,e,_⟩,_⟩:=h0 t p (lD hm);exact RA N (by rw [e];simp)
 have tx:=I (λW=>TM (w:=W) x H);have HD:=I (λW v0 (hv:ll W v0 (vR x))=>CK s (vR x) v0 W HL.o hv (EU x H).2 (EU x H).1 n1 wR h4 (by rw [C]) (by rw [C];exact hp));have R:=I HB;have d:=I Q0;have ay:((G K:Int) == 0)=false:=bo.2 (λe=>by omega);have aa:Hid ((aI s).1=K):=I (by rw [C]);obtain ⟨x1,xv,xn,xl⟩:=x;simp only at *;obtain ⟨L,hs⟩:∃ L,Hid (vR (x1,xv,xn,xl)=L):=⟨_,I rfl⟩;rw [hs.o] at tx HD;obtain ⟨r1,r2⟩:=h4;clear C hp Q0 v HB ht;go_in;go_wp2_with (go_at_call 51;refine mo (iU s _ K HL.o HT.o) ?_;rintro e w1 ⟨a2,rfl,l,ns⟩);obtain ⟨ao,b,rfl,Q5⟩:=pQ l;obtain ⟨g,rfl,c0,c1⟩:=Q5 0 m;have U:=I ns;have V:=I l;rw [<- eY K 0 m,S] at c0;simp only [jC,cS] at c0 c1;clear l ns Q5 c1 S;apply I;go_wp2_with (go_at_call 52;refine mo (tx.o _) ?_;rintro e w2 ⟨g2,ad,rfl,Q4,QT⟩);have wK:=I Q4;have h:=I QT;have aJ:=λW=>rt W (yh g2) (G L) ad;clear Q4 QT;apply I;go_wp2_with (go_at_call 53;refine mo (HD.o _ _ wK.o) ?_;rintro e w3 ⟨v3,rfl,al,y⟩);have QV:=I y;have Q6:Hid (G K<=b):=I (by
  obtain ⟨an,av,o',e',ac,_⟩:=qM V.o;cases e';exact ac)
 have f:Hid (zB w w3):=I ((U.o.t (h.o.m U.o.size)).t (y.m (bf U.o.size h.o.size)));have F:Hid (ea w3 (zS g (G K) b) (aI s).1/\∀ q,(B (A (yh g)) (G K) b).ownBlock=A q->w.heap.size<=q):=I (by
  rw [aa.o];exact ⟨qM (aZ (aZ V.o h.o) y),λq hq=>(fJ V.o q hq).1⟩)
 clear al y;rcases hr:r with ⟨P,er,p⟩|⟨P,T,tt⟩
 .subst hr;rcases d.o with ⟨N,Z,O⟩|⟨N,Z,O,i,c,a⟩
  .simp only at N Z;subst N;subst Z;have a0:(er == 0)=false:=bo.2 O;clear d O;apply I;go_wp2_with fail;refine aK (v:=zp #[zS g (G K) b,J er,J p,Q x1]) (by simp [results,results36,go_sem]) rfl ?_;exact ⟨_,by rw [R.o];rfl,f.o,λP T t e=>by cases e⟩
  .subst N;subst Z;cases O;clear d;have u:=z.1 i;subst u;have af:¬ b=3:=λe=>by have:=Q6.o;omega
   have ag:(4:Int)<=(G K:Int):=a6.2 c;have Y:=I ((qM (aZ (aZ V.o h.o) QV.o)).drop (k:=3) (by omega) (by omega));have E:Hid ((K.drop 3).length<=1000):=I (by rw [mG];omega);obtain ⟨M,D⟩:∃ M,Hid (bV (K.drop 3) (K.drop 3).length=M):=⟨_,I rfl⟩;have j:=I (Ho (K.drop 3) _ _ Y.o E.o HG.o);rw [D.o] at j a;have ak:(100:Int)<(G M:Int):=iD.2 a;clear a;apply I;go_wp2_with (go_at_call 54;refine mo j.o ?_;rintro e w4 ⟨rfl,n⟩);have o:=I n;clear n;apply I;go_wp2_with fail;refine aK (v:=zp #[zS g (G K) b,J 7,J 0,Q ([115,101,116]:By)]) (by simp [results,results36,go_sem]) rfl ?_;exact ⟨_,by rw [R.o];rfl,f.o.t (o.o.m (bf f.o.size (aG _))),λP T t e=>by cases e⟩
 .subst hr;obtain ⟨O,am⟩:=d.o;cases O;clear d;cases i:xl
  .have u:=z.2 i;apply I;go_wp2_with fail;refine aK (v:=zp #[zS g (G K) b,J 0,J 0,Q x1]) (by simp [results,results36,go_sem]) rfl ?_;exact ⟨_,by rw [R.o];rfl,f.o,λP T t e=>F.o⟩
  .obtain ⟨c,a⟩:=am i;have u:=z.1 i;subst u;have af:¬ b=3:=λe=>by have:=Q6.o;omega
   have ag:(4:Int)<=(G K:Int):=a6.2 c;have Y:=I ((qM (aZ (aZ V.o h.o) QV.o)).drop (k:=3) (by omega) (by omega));have E:Hid ((K.drop 3).length<=1000):=I (by rw [mG];omega);obtain ⟨M,D⟩:∃ M,Hid (bV (K.drop 3) (K.drop 3).length=M):=⟨_,I rfl⟩;have j:=I (Ho (K.drop 3) _ _ Y.o E.o HG.o);rw [D.o] at j a;have ak:¬ (100:Int)<(G M:Int):=λe=>a (iD.1 e);clear a;apply I;go_wp2_with (go_at_call 54;refine mo j.o ?_;rintro e w4 ⟨rfl,n⟩);have o:=I n;clear n;apply I;go_wp2_with fail;refine aK (v:=zp #[zS g (G K) b,J 0,J 0,Q ([115,101,116]:By)]) (by simp [results,results36,go_sem]) rfl ?_;exact ⟨_,by rw [R.o];rfl,f.o.t (o.o.m (bf f.o.size (aG _))),λP T t e=>⟨F.o.1.next o.o,F.o.2⟩⟩
end
section
variable {w w' W:zW} {s:By} {r:tR}
def yE (h:ew s r):zC prog 36 #[Q s] w (TP s r w):=by
 rcases h with ⟨c,rfl⟩|⟨c,p,d,rfl⟩|⟨c,K,d,n⟩
 .exact O6 c
 .exact TQ c p d
 .have i:∀ x∈aQ,ej x.1=x.1:=(by decide);rcases n with ⟨k,j,b,m⟩|⟨b,rfl⟩
  .have g:aQ[k]∈aQ:=bt j;have f:=(iT _ g).1;have a:0<G K:=by
    rcases cC 0 (G K) with h|h
    .exact h
    .exfalso;unfold nT at b;rw [aA (by omega)] at b;exact f b
   have l:aw K 0=aQ[k].1:=by
    unfold nT at b;rw [aB a] at b;exact ET b.symm f
   exact O9 c d aQ[k] g l m
  .rcases cC 0 (G K) with a|a
   .refine O8 c d a λx g e=>?_;obtain ⟨k,j,rfl⟩:=e9 g;refine b k j ?_;unfold nT;rw [aB a,e,i _ g]
   .have e:K=[]:=oD (by omega);subst e;exact O7 c d
end
section
attribute [local go_sem] ap aq
variable {w w' W w1:zW} {U l:zV} {V:List Bk} {C:Nat->Prop} {Z Q4 n m:Nat} {xs news:List zV} {v0 v1:zV} {bn:Option zD} {cn:Nat}
def rx {k:Nat} (h:0<k) (g:Nat) (a:k<=g):k / 10<=k - 1/\k / 10<g/\k / 10<=k / 10:=by omega
def gO (w:zW) (C:Nat->Prop) (v:zV) (k:Nat) (u:zV):Prop:=∃ a c,v=B a k c/\(k=0\/∃ g,a=A (yh g)/\C g/\g<w.heap.size/\∀ i,i<k->w.cell? (X g i)=A u)
def gO.ks {P:Nat->Prop} {v u:zV} {k:Nat} (h:gO w C v k u) (d:Ks P w w') (e:∀ q,C q->q<w.heap.size->¬ P q):gO w' C v k u:=by
 obtain ⟨f,c,rfl,h⟩:=h;refine ⟨f,c,rfl,h.imp id ?_⟩;rintro ⟨g,rfl,b,a,j⟩;exact ⟨g,rfl,b,bG a d.size,λi l=>(aS (d.block g a (e g b a)) i).t (j i l)⟩
def gO.own {v u:zV} {k:Nat} (h:w.ownsRow Q4 9 1 v k xs) (d:xs=List.replicate k u) (c:∀ q,v.ownBlock=A q->C q):gO w C v k u:=by
 rcases h.2 with ⟨rfl,b⟩|⟨g,a,e,rfl,_⟩
 .exact ⟨none,0,by rw [b],zR b⟩
 .refine ⟨_,a,rfl,zZ ⟨g,rfl,c g rfl,(fJ h g rfl).2,λi f=>?_⟩⟩;rw [BA h i (by omega),d,List.getElem?_replicate,aB f]
def pU.full {v' u:zV} (h:pU w Q4 l n m xs news v' w') (d:xs=List.replicate n u) (c:news=List.replicate m u) (a:∀ q,l.ownBlock=A q\/w.heap.size<=q->C q):gO w' C v' (n+m) u:=by
 refine gO.own h.new (by rw [d,c,List.replicate_append_replicate]) λq b=>?_;rcases h.at_ with e|⟨e,_⟩
 .exact a q (zR (e▸b))
 .exact a q (zZ (e q b))
def pU.keep {v v' u:zV} {k:Nat} (h:pU w Q4 l n m xs news v' w') (z:xs=List.replicate n u) (r:news=List.replicate m u) (j:gO w C v k u) (D:k<=n+m):gO w' C v k u:=by
 obtain ⟨t,c,rfl,j⟩:=j;refine ⟨t,c,rfl,j.imp id ?_⟩;rintro ⟨g,rfl,s,d,o⟩;refine ⟨g,rfl,s,bG d h.grown.size,λi q=>?_⟩;by_cases p:l.ownBlock=A g
 .rcases h.at_ with e|⟨_,e⟩
  .have b:v'.ownBlock=A g:=e.t p;rcases h.new.2 with ⟨f,_⟩|⟨E,x,y,f,_⟩
   .rw [f] at b;cases b
   .have a:=h.new;rw [f] at b a;cases b;rw [BA a i (by omega),z,r,List.replicate_append_replicate,List.getElem?_replicate,aB (by omega)]
  .exact (aS (e.block g d (by simp)) i).t (o i q)
 .exact (aS (h.grown.block g d (λe=>p e.symm)) i).t (o i q)
def pU.ks {v':zV} (h:pU w Q4 l n m xs news v' w'):Ks (λq=>l.ownBlock=A q) w w':=⟨h.grown.os,h.grown.tape,h.grown.output,h.grown.size,λk a b=>h.grown.block k a λe=>b e.symm⟩
def pU.slice {v':zV} (h:pU w Q4 l n m xs news v' w'):∃ a c,v'=B a (n+m) c:=by
 rcases h.new.2 with ⟨b,e⟩|⟨g,d,f,b,_⟩
 .exact ⟨none,0,by rw [e];exact b⟩
 .exact ⟨_,d,b⟩
def T4 {u:zV} {j:Nat} {a:List zV} (h:0<G a):(List.replicate j u++a).set j u=List.replicate (j+1) u++a.drop 1:=by
 rw [List.set_append,aA (by simp),List.length_replicate,nK];cases a with
 | nil=>cases h
 | cons y r=>simp [List.replicate_succ']
def pV (w:zW) (b:Nat) (a:b=w.heap.size) (cs:List zV) (T:TypeId) (j:Nat) (u:zV) (h:cs[j]?=A u):(w.alloc (zM cs.toArray T)).cell? (((yh b):zD).add j)=A u:=a▸bC w cs T j u h
structure nR (w:zW) (Q4:Nat) (l:zV) (n:Nat) (u:zV) (Q6:Nat) (a b c:zV) (wi:zW):Prop where
 ks:Ks (λq=>l.ownBlock=A q) w wi
 own:wi.ownsRow Q4 9 1 l n (List.replicate n u)
 row:wi.heap[Q6]?=A (zM #[l,a,b,c,u] 126 (0,0))
 X0:w.heap.size<=Q6
 nX:∀ q,l.ownBlock=A q->q<w.heap.size
def nR.lt {u a b c:zV} {D:Nat} (h:nR w Q4 l n u D a b c w1):D<w1.heap.size:=(cz.1 h.row).1
def nR.next {u a b c:zV} {D:Nat} (h:nR w Q4 l n u D a b c w1) (d:zB w1 w'):nR w Q4 l n u D a b c w':=⟨h.ks.t (Ks.of d),aZ h.own d,(d.block D h.lt).t h.row,h.X0,h.nX⟩
def nR.app {u a b c v':zV} {D:Nat} (h:nR w Q4 l n u D a b c w1) (d:pU w1 Q4 l n m (List.replicate n u) news v' w'):nR w Q4 l n u D a b c w':=
 ⟨h.ks.t d.ks,d.old,(d.grown.block D h.lt λe=>by have:=h.nX D e.symm;have:=h.X0;omega).t h.row,h.X0,h.nX⟩
def nR.neX {u a b c:zV} {D:Nat} (h:nR w Q4 l n u D a b c w1):l.ownBlock≠A D:=λe=>by have:=h.nX D e;have:=h.X0;omega
def y7 {v x:zV} {D k:Nat} (h:w.ownsRow Q4 9 1 v n xs) (f:v.ownBlock≠A D):(w.setCell (X D k) x).ownsRow Q4 9 1 v n xs:=by
 rcases h.2 with ⟨rfl,E⟩|⟨g,a,b,rfl,c,d,i⟩
 .exact ⟨h.1,zR ⟨rfl,E⟩⟩
 .exact ⟨h.1,zZ ⟨g,a,b,rfl,c,(cY _ _ _ _ (λe=>f (by rw [show D=g from e.symm];rfl))).t d,i⟩⟩
def nR.abH {u a b c x:zV} {D:Nat} (h:nR w Q4 l n u D a b c w1):nR w Q4 l n u D x b c (w1.setCell (X D 1) x):=
 ⟨⟨h.ks.os,h.ks.tape,h.ks.output,by simpa using h.ks.size,λk d f=>(cY _ _ _ _ (λe=>by have:=h.X0;rw [show D=k from e.symm] at this;omega)).t (h.ks.block k d f)⟩,y7 h.own h.neX,(aj h.row 1 x).t rfl,h.X0,h.nX⟩
def nR.abI {u a b c x:zV} {D:Nat} (h:nR w Q4 l n u D a b c w1):nR w Q4 l n u D a x c (w1.setCell (X D 2) x):=
 ⟨⟨h.ks.os,h.ks.tape,h.ks.output,by simpa using h.ks.size,λk d f=>(cY _ _ _ _ (λe=>by have:=h.X0;rw [show D=k from e.symm] at this;omega)).t (h.ks.block k d f)⟩,y7 h.own h.neX,(aj h.row 2 x).t rfl,h.X0,h.nX⟩
def nR.alF {u a b c x:zV} {D:Nat} (h:nR w Q4 l n u D a b c w1):nR w Q4 l n u D a b x (w1.setCell (X D 3) x):=
 ⟨⟨h.ks.os,h.ks.tape,h.ks.output,by simpa using h.ks.size,λk d f=>(cY _ _ _ _ (λe=>by have:=h.X0;rw [show D=k from e.symm] at this;omega)).t (h.ks.block k d f)⟩,y7 h.own h.neX,(aj h.row 3 x).t rfl,h.X0,h.nX⟩
def H8 {w:zW} {q:Nat} {v0 v1 v2 v3 v4:zV} {t:TypeId} (h:w.heap[q]?=A (zM #[v0,v1,v2,v3,v4] t (0,0))) :
  w.cell? (yh q)=A v0/\w.cell? (X q 1)=A v1/\w.cell? (X q 2)=A v2/\w.cell? (X q 3)=A v3/\w.cell? (X q 4)=A v4/\w.frozen? (X q 1)=false/\w.frozen? (X q 2)=false/\w.frozen? (X q 3)=false:=
 ⟨(bq w q 0 _ _ _ h).t rfl,(bq w q 1 _ _ _ h).t rfl,(bq w q 2 _ _ _ h).t rfl,(bq w q 3 _ _ _ h).t rfl,(bq w q 4 _ _ _ h).t rfl,bF h 1,bF h 2,bF h 3⟩
def nR.start {u:zV} (a:Ks (λq=>l.ownBlock=A q) w w1) (c:w1.ownsRow Q4 9 1 l n (List.replicate n u)) (b:∀ q,l.ownBlock=A q->q<w.heap.size):nR w Q4 l n u w1.heap.size (zN) (zN) (zN) (w1.alloc (zM #[l,zN,zN,zN,u] 126)):=
 ⟨a.alloc _,aZ c (bI _ _),by simp only [World.alloc,yi],a.size,b⟩
def y8 (w:zW) (l:zV) (D:Nat) (q:Nat):Prop:=(l.ownBlock=A q\/w.heap.size<=q)/\q≠D
def nR.c {u a b c:zV} {D:Nat} (h:nR w Q4 l n u D a b c w1):∀ q,l.ownBlock=A q\/w1.heap.size<=q->y8 w l D q:=λq d=>by
 have f:=h.lt;have g:=h.ks.size;rcases d with d|d
 .exact ⟨zR d,λe=>h.neX (e▸d)⟩
 .exact ⟨zZ (by omega),by omega⟩
def gO.set {v u x:zV} {k D i:Nat} (h:gO w1 (y8 w l D) v k u):gO (w1.setCell (X D i) x) (y8 w l D) v k u:=
 h.ks (P:=λq=>q=D) ((Ks.refl _ _).set D i x rfl) λq a _=>a.2
def gO.next {v u:zV} {k:Nat} (h:gO w C v k u) (a:zB w w'):gO w' C v k u:=h.ks (P:=λ_=>False) (Ks.of a) λ_ _ _ h=>h
def rF (W:zW) (z:Int):(convert 168 9 (zS W.heap.size 1 1)).run prog (W.alloc (zM #[.int .u8 z] 5))=.ok (Q ([UInt8.ofNat z.toNat]:By)) (W.alloc (zM #[.int .u8 z] 5)):=by
 have h:=run_convert_bytes_arg (P:=prog) (W.alloc (zM #[.int .u8 z] 5)) 168 5 underlying168 underlying5 W.heap.size 0 1 1 [z] rfl (λi a=>by
  obtain rfl:i=0:=(by omega);rw [bq (W.alloc (zM #[.int .u8 z] 5)) W.heap.size 0 #[.int .u8 z] 5 (0,0) (by simp only [World.alloc,yi])];rfl) 9 underlying9
 exact h
def rH {k:Nat} (h:k<=9000000):k+1<=9000001:=by omega
def rI {k:Nat} (h:k<=9000000):12+(k+1)<=9000100:=by omega
def rJ {k:Nat} (h:k<=9000001):k / 10<=9000001:=by omega
def rM {j n:Nat} {u:zV} {a:List zV} (h:(List.replicate j u++a).length=n*1) (b:j<n):0<G a:=by
 rw [b6,List.length_replicate] at h;omega
def sa {a k b:Nat} (h:a+k<=b) (c:0<k):a+1+k / 10<=b:=by omega
def sd:(prog.info? 126).map (λi=>(i.zero,i.size,i.bytes))=A (A (zd #[zN,zN,zN,zN,Q []]),5,112):=by kernel_rfl
def CU {P:Nat->Prop} (h:w.ownsRow Q4 126 5 U n xs) (N:Ks P w w') (M:∀ q,U.ownBlock=A q->¬ P q):w'.ownsRow Q4 126 5 U n xs:=by
 rcases h.2 with ⟨rfl,H⟩|⟨g,E,F,rfl,K,D,L⟩
 .exact ⟨h.1,zR ⟨rfl,H⟩⟩
 .exact ⟨h.1,zZ ⟨g,E,F,rfl,K,(N.block g (cz.1 D).1 (M g rfl)).t D,L⟩⟩
def dj (w:zW) (Z Q4:Nat) (v0 v1 U l:zV) (V:List Bk) (r:Ending) (w':zW):Prop:=∃ a x,r=zP (zp #[])/\Ks (λq=>q=Z\/l.ownBlock=A q\/U.ownBlock=A q) w w'/\w'.heap[Z]?=A (zM #[v0,v1,a] 72 (0,0))/\w'.ownsRow Q4 126 5 a (V++[x]).length (xV (V++[x]))/\(∀ q,a.ownBlock=A q->U.ownBlock=A q\/w.heap.size<=q)/\sJ w' (λq=>(l.ownBlock=A q\/w.heap.size<=q)/\a.ownBlock≠A q) x
def T5 (V:List Bk) (x:Bk):xV (V++[x])=xV V++[x.l,x.a,x.b,x.c,Q x.m]:=by
 unfold xV;rw [yo,sD,List.flatMap_nil,iq];rfl
def sm {K:Nat} {a b c:zV} {r:By} {f u:zW} {g m:Nat} (x:w.heap[Z]?=A (zM #[v0,v1,U] 72 (0,0))) (t:∀ q,l.ownBlock=A q->q≠Z/\U.ownBlock≠A q) (F:U.ownBlock≠A Z) (C:∀ q,U.ownBlock=A q->q<w.heap.size) (H:nR w Q4 l n (Q r) K a b c f) (Q0:gO f (y8 w l K) l n (Q r)) (ha:gO f (y8 w l K) a (n+1) (Q r)) (hb:gO f (y8 w l K) b (n+2) (Q r)) (hc:gO f (y8 w l K) c (n+3) (Q r)) (S:n<=1000) {o:Obj}
  (ho:u.ownsRow Q4 126 5 (zS g (G V+1) m) (G V+1) (xV V++[l,a,b,c,Q r])) (D:(f.drew.alloc o).grownBy u U.ownBlock) (z:U.ownBlock=A g\/g=f.drew.heap.size+1) :
  dj w Z Q4 v0 v1 U l V (zP (zp #[])) (u.setCell (X Z 2) (zS g (G V+1) m)):=by
 have M:=(cz.1 x).1;have W:=H.ks.size;have hX:=H.lt;have QT:=H.X0;have R:f.drew.heap=f.heap:=rfl;have E:Ks (λq=>l.ownBlock=A q) w (f.drew.alloc o):=H.ks.t (Ks.of (((aM _ _).drew).alloc (aG _) o));have s:Ks (λq=>U.ownBlock=A q) (f.drew.alloc o) u:=⟨D.os,D.tape,D.output,D.size,λk Y S=>D.block k Y λe=>S e.symm⟩;have N:Ks (λq=>q=Z\/l.ownBlock=A q\/U.ownBlock=A q) w u:=(E.wide λq j=>zZ (zR j)).t (s.wide λq j=>zZ (zZ j));have O:g≠Z:=by
  rcases z with h|h
  .exact λe=>F (e▸h)
  .rw [R] at h;omega
 have Q5:u.heap[Z]?=A (zM #[v0,v1,U] 72 (0,0)):=by
  rw [s.block Z (by simp [R];omega) F,E.block Z M λe=>(t Z e).1 rfl];exact x
 have QV:∀ q,y8 w l K q->q<f.heap.size->q≠g/\U.ownBlock≠A q/\q≠Z:=λq j Mh=>by
  refine ⟨λe=>?_,λe=>?_,λe=>?_⟩
  .rcases z with h|h
   .rcases j.1 with p|p
    .exact (t q p).2 (e▸h)
    .have:=C g h;omega
   .rw [R] at h;omega
  .rcases j.1 with p|p
   .exact (t q p).2 e
   .have:=C q e;omega
  .rcases j.1 with p|p
   .exact (t q p).1 e
   .omega
 have d:∀ {v:zV} {k:Nat},k<=10000->gO f (y8 w l K) v k (Q r)->ml (u.setCell (X Z 2) (zS g (G V+1) m)) (λq=>(l.ownBlock=A q\/w.heap.size<=q)/\(B (A (yh g)) (G V+1) m).ownBlock≠A q) v r:=λ{v k} Y h=>by
  obtain ⟨ao,c,rfl,h⟩:=h;refine ⟨ao,k,c,rfl,Y,h.imp id ?_⟩;rintro ⟨q,rfl,T,j,Q6⟩;obtain ⟨p,h2,h3⟩:=QV q T j;have L:=s.size;refine ⟨q,rfl,⟨T.1,λe=>p (dp e).symm⟩,?_,λi hi=>?_⟩
  .simp [R] at L ⊢;omega
  .have y:(u.setCell (X Z 2) (zS g (G V+1) m)).heap[q]?=f.heap[q]?:=by
    rw [cY _ _ _ _ (λe=>h3 (show q=Z from e)),s.block q (by simp [R];omega) h2];exact (((aM f.heap.size f).drew).alloc (aG _) o).block q j
   exact (aS y i).t (Q6 i hi)
 refine ⟨_,⟨l,a,b,c,r⟩,rfl,N.set Z 2 _ (zR rfl),(aj Q5 2 _).t rfl,?_,λq j=>?_,d (by omega) Q0,d (by omega) ha,d (by omega) hb,d (by omega) hc⟩
 .rw [T5,b6];exact CU (P:=λq=>q=Z) ho ((Ks.refl _ _).set Z 2 _ rfl) λq j e=>O ((dp j).t e)
 .cases j;rcases z with h|h
  .exact zR h
  .rw [R] at h;exact zZ (show w.heap.size<=g by omega)
def sn (Q0:w.heap[Z]?=A (zM #[v0,v1,U] 72 (0,0))) (h:w.ownsRow Q4 126 5 U (G V) (xV V)) (hl:G V<=9000000) (M:w.ownsRow Q4 9 1 (B bn n cn) n xs) (hn:n<=1000) (hB:Q4<=w.heap.size) (al:∀ q,(B bn n cn).ownBlock=A q->q≠Z/\U.ownBlock≠A q) (am:U.ownBlock≠A Z):zC prog 86 #[zK (A (X Z 2)),B bn n cn] w (dj w Z Q4 v0 v1 U (B bn n cn) V):=by
 obtain ⟨i0,hi,bv,bw,bN⟩:=fe sd;obtain ⟨O,c,rfl,_,hr⟩:=RP h;have ch:(G V:Int)<=9000000:=a6.2 hl;have cf:(0:Int)<=(G V:Int):=mF _;have wR:(n:Int)<=1000:=a6.2 hn;have hc:w.cell? (X Z 2)=A (B O (G V) c):=(bq w Z 2 _ _ _ Q0).t rfl;have a3:=I Q0;have HT:=I h;have HO:=I M;have z:=I hn;have HL:=I hl;have y:=I hB;have x0:=I al;have ac:=I am;have HR:=I hr;clear Q0 h hl M hn hr hB al am;go_in;go_wp2_with fail;go_loopg [4,5] (G V+1) (λgk m n wr=>∃ (a:By) (k:Nat),m=Q a/\n=J k/\k<=gk/\k<=9000001/\G a+k<=9000100/\Hid (zB w wr))
 case atStart=>exact ⟨[116,104,101,32,111,119,110,101,114,39,115,32],G V+1,rfl,(by simp),aG _,rH HL.o,rI HL.o,I (aM _ _)⟩
 case round=>
  obtain ⟨a,k,rfl,rfl,ag,hk,ak,o⟩:=hrel;rcases Nat.eq_zero_or_pos k with rfl|Q6
  .have MB:=I (aZ HO.o o.o);clear hk ag;go_wp2_with fail;go_loopg [6] n (λgj i wz=>∃ (j:Nat) (g:List zV),j<=n/\n<=j+gj/\i=J j/\Hid (Ks (λq=>(B bn n cn).ownBlock=A q) w wz/\wz.ownsRow Q4 9 1 (B bn n cn) n (List.replicate j (Q a)++g)))
   case atStart=>exact ⟨0,xs,bE _,jD (cS _).symm,rfl,I ⟨Ks.of o.o,MB.o⟩⟩
   case round=>
    obtain ⟨j,g,hj,bj,rfl,D⟩:=hrel;rcases cC j n with f|f
    .have ci:=eu f;have x2:=I (eJ f bj);obtain ⟨QT,b1,hv,-,xE⟩:=D.o.2.form (th (bE _) f);cases hv;have bu:0<G g:=rM D.o.2.1 f;obtain ⟨u,b3⟩:∃ u,wr.cell? (X QT j)=A u:=by
      rw [BA D.o.2 j (by rw [nL];exact f)];exact ⟨_,cU (by rw [D.o.2.1,nL];exact f)⟩
     have cd:=World.ownsRow.frozenAt D.o.2 j;have aa:=I (World.ownsRow.stored D.o.2 j (Q a)).1;rw [T4 bu] at aa;have ay:Hid (Ks (λq=>(B (A (yh QT)) n cn).ownBlock=A q) w (wr.setCell (X QT j) (Q a))):=I (D.o.1.set QT j _ rfl);go_wp2_with fail;go_roundg (n - (j+1))
     case measure=>exact x2.o.2.1
     case rel=>exact ⟨j+1,g.drop 1,x2.o.2.2,x2.o.1,(by simp),I ⟨ay.o,aa.o⟩⟩
    .have tA:=eH f;obtain rfl:j=n:=lT hj f;have ad:Hid (wr.ownsRow Q4 9 1 (B bn j cn) j (List.replicate j (Q a))):=I (by
      have h2:=D.o.2;have h0:g=[]:=by
       have:=h2.1;rw [b6,List.length_replicate] at this;exact oD (by omega)
      rw [h0,iq] at h2;exact h2)
     have x4:=I (nR.start D.o.1 ad.o λq E=>(fJ HO.o q E).2);have ar:Hid (Q4<=wr.heap.size):=I (bf y.o D.o.1.size);have bS:Hid (∀ (W:zW) (u:zV) (x3:TypeId),∀ i x,[u][i]?=A x->(W.alloc (zM #[u] x3)).cell? (((yh W.heap.size):zD).add i)=A x):=I λW u x3 i x h=>bC W [u] x3 i x h;clear ad;go_wp2_with (at_builtin;refine rQ (news:=[Q a]) rfl (.tmp 39) (.tmp 41) rfl (yh (wr.heap.size+1)) 1 rfl rfl (x4.o.next (bI _ _)).own (by have:=ar.o;simp;omega) z.o (by decide) (by decide) rfl (λi x h=>pV _ _ (by simp) [Q a] 9 i x h) (λx h=>by rw [iB.1 h];rfl) ?_;intro v1 w1 b;replace b:=I b;apply Hid.o);have s:=I ((x4.o.next (bI _ _)).app b.o);have p:=I (pU.full (C:=y8 w (B bn j cn) wr.heap.size) b.o rfl rfl (x4.o.next (bI _ _)).c);have a5:Hid (Q4<=w1.heap.size):=I (bf y.o s.o.ks.size);obtain ⟨a1,c1,rfl⟩:=b.o.slice;obtain ⟨N,R,S,T,Y,z1,z2,z3⟩:=H8 s.o.row;have bl:=s.o.lt;have TC:¬ w1.heap.size=wr.heap.size:=λe=>iC _ (e▸bl);have cl:¬ wr.heap.size=w1.heap.size:=λe=>TC e.symm;clear b;apply I;go_wp2_with (at_builtin;refine rQ (news:=[Q a,Q a]) rfl (.tmp 44) (.tmp 47) rfl (yh w1.heap.size) 2 rfl rfl (s.o.abH.next (bI _ _)).own (by have:=a5.o;simp;omega) z.o (by decide) (by decide) rfl (λi x h=>pV _ _ (by simp) [Q a,Q a] 9 i x h) (λx h=>by rw [List.eq_of_mem_replicate (n:=2) h];rfl) ?_;intro v2 w2 b;replace b:=I b;apply Hid.o);have t:=I ((s.o.abH.next (bI _ _)).app b.o);have L:=I (pU.full (C:=y8 w (B bn j cn) wr.heap.size) b.o rfl rfl (s.o.abH.next (bI _ _)).c);have p:=I (b.o.keep rfl rfl ((p.o.set).next (bI _ _)) (by omega));have a8:Hid (Q4<=w2.heap.size):=I (bf y.o t.o.ks.size);obtain ⟨a2,c2,rfl⟩:=b.o.slice;obtain ⟨N,R,S,T,Y,z1,z2,z3⟩:=H8 t.o.row;have br:=t.o.lt;have bs:¬ w2.heap.size=wr.heap.size:=λe=>iC _ (e▸br);have cm:¬ wr.heap.size=w2.heap.size:=λe=>bs e.symm;clear b;apply I;go_wp2_with (at_builtin;refine rQ (news:=[Q a,Q a,Q a]) rfl (.tmp 50) (.tmp 54) rfl (yh w2.heap.size) 3 rfl rfl (t.o.abI.next (bI _ _)).own (by have:=a8.o;simp;omega) z.o (by decide) (by decide) rfl (λi x h=>pV _ _ (by simp) [Q a,Q a,Q a] 9 i x h) (λx h=>by rw [List.eq_of_mem_replicate (n:=3) h];rfl) ?_;intro v3 w3 b;replace b:=I b;apply Hid.o);have H:=I ((t.o.abI.next (bI _ _)).app b.o);have HB:=I (pU.full (C:=y8 w (B bn j cn) wr.heap.size) b.o rfl rfl (t.o.abI.next (bI _ _)).c);have p:=I (b.o.keep rfl rfl ((p.o.set).next (bI _ _)) (by omega));have L:=I (b.o.keep rfl rfl ((L.o.set).next (bI _ _)) (by omega));have bX:Hid (Q4<=w3.heap.size):=I (bf y.o H.o.ks.size);obtain ⟨K,c3,rfl⟩:=b.o.slice;obtain ⟨N,R,S,T,Y,z1,z2,z3⟩:=H8 H.o.row;have an:=H.o.lt;have ao:¬ w3.heap.size=wr.heap.size:=λe=>iC _ (e▸an);have bk:¬ wr.heap.size=w3.heap.size:=λe=>ao e.symm;clear b;apply I;go_wp2_with fail;have d:=I (H.o.alF (x:=B K (j+3) c3));have au:=I (p.o.set (i:=3) (x:=B K (j+3) c3));have av:=I (L.o.set (i:=3) (x:=B K (j+3) c3));have ax:=I (HB.o.set (i:=3) (x:=B K (j+3) c3));generalize w3.setCell (X wr.heap.size 3) (B K (j+3) c3)=l at *;obtain ⟨N,R,S,T,Y,-,-,-⟩:=H8 d.o.row;have x1:Hid (l.heap[Z]?=A (zM #[v0,v1,B O (G V) c] 72 (0,0))):=I ((d.o.ks.block Z (cz.1 a3.o).1 λe=>(x0.o Z e).1 rfl).t a3.o);have y2:l.cell? (X Z 2)=A (B O (G V) c):=(bq l Z 2 _ _ _ x1.o).t rfl;have f2:l.frozen? (X Z 2)=false:=bF x1.o 2;have a4:Hid (l.drew.ownsRow Q4 126 5 (B O (G V) c) (G V) (xV V)):=I (CU (P:=λ_=>False) (CU HT.o d.o.ks λq E e=>(x0.o q e).2 E) (Ks.of (aM _ _).drew) λ_ _ h=>h);have xB:Hid (Q4<=l.drew.heap.size):=I (bf y.o d.o.ks.size);have HN:Hid (G V+1<=maxLen/\(G V+1)*112<=140737488355328):=I (by have h2:=HL.o;unfold maxLen;omega);have F:Hid (Z<l.heap.size/\wr.heap.size<l.heap.size):=I ⟨(cz.1 x1.o).1,d.o.lt⟩;have aJ:Hid (A Z≠(B O (G V) c).ownBlock):=I λe=>ac.o e.symm;have a0:Hid (A wr.heap.size≠(B O (G V) c).ownBlock):=I λe=>iC _ (bG (fJ HT.o _ e.symm).2 d.o.X0);have a9:Z<l.heap.size:=F.o.1;have ba:¬ Z=l.heap.size:=cZ a9;have b0:¬ l.heap.size=Z:=λe=>ba e.symm;clear H p L HB ao bk an z1 z2 z3;have bb:Hid (gO l (y8 w (B bn j cn) wr.heap.size) (B bn j cn) j (Q a)):=I (gO.own d.o.own rfl λq E=>⟨zR E,λe=>d.o.neX (e▸E)⟩)
     go_region_law (first|(refine yw _ (by rfl) (.tmp 61) (.tmp 63) 68 (by rfl) Q4 126 i0 (zd #[zN,zN,zN,zN,Q []]) 5 112 underlying68 hi bv bw bN rfl (by decide) (B O (G V) c) (G V) _ (by rfl) (a4.o.alloc _) (yh l.drew.heap.size) 1 1 [B bn j cn,B a1 (j+1) c1,B a2 (j+2) c2,B K (j+3) c3,Q a] (by rfl) rfl (λq u E=>bC l.drew _ 126 q u E) (λu hu=>by simp at hu;rcases hu with rfl|rfl|rfl|rfl|rfl<;>rfl) (by decide) HN.o.1 HN.o.2 (bf xB.o (by simp)) (l.drew.heap.size+1) (by simp) ?_;intro g' b2 w5 ys QV af vQ;have Q5:=(QV.block Z (bG F.o.1 (bI l.drew _).size) aJ.o).t ((bI l.drew _).block Z F.o.1);have y2:=(aS Q5 2).t y2;have f2:=(qJ Q5 2).t f2;have r:=(QV.block wr.heap.size (bG F.o.2 (bI l.drew _).size) a0.o).t ((bI l.drew _).block wr.heap.size F.o.2);have N:=(aS r 0).t N;have R:=(aS r 1).t R;have S:=(aS r 2).t S;have T:=(aS r 3).t T;have Y:=(aS r 4).t Y;have B4:=I ys;have B5:=I QV;have B6:=I af;clear ys QV af Q5 r))
     all_goals refine bodyPost_end (v:=zp #[]) (by simp [results,results86,go_sem]) rfl ?_
     all_goals exact sm a3.o x0.o ac.o (λq E=>(fJ HT.o q E).2) d.o bb.o au.o av.o ax.o z.o B4.o B5.o B6.o
  .have Jj:(0:Int)<(k:Int):=iD.2 Q6;have ce:(k:Int)<=9000001:=a6.2 hk;have ck:(G a:Int)<=9000100:=a6.2 (bf (Nat.le_add_right _ _) ak);have HD:=I (rx Q6 _ ag);have SV:=I (sa ak Q6);have cc:=λbO=>rF wr bO;go_wp2_with fail;go_roundg (k / 10)
   case measure=>exact HD.o.2.1
   case rel=>exact ⟨a++[48+UInt8.ofNat (k % 10)],k / 10,rfl,(by simp),aG _,rJ hk,by rw [b6];exact SV.o,I (o.o.alloc o.o.size _)⟩
end
section
variable {Z w w' W w1 w2:zW} {T C P:Nat->Prop} {E:List En} {c H:Nat->Nat} {U i:Nat} {Q5 R O l:zV} {Q6:List Nat} {V:List Bk}
structure Yd where
 S:Nat->Prop
 y:Nat
 vb:zV
 va:zV
 d:De
variable {Y:List Yd}
def CX (Q6:List Nat):List zV:=Q6.map λq=>zJ q
structure mC (Z:zW) (U:Nat) (c:Nat->Nat) (Q5 R O:zV) (Q6:List Nat) (Y:List Yd) (V:List Bk) (w:zW):Prop where
 row:w.heap[U]?=A (zM #[Q5,R,O] 72 (0,0))
 cw:c U=1
 xs:w.ownsRow Z.heap.size 34 1 Q5 (G Q6) (CX Q6)
 ys:w.ownsRow Z.heap.size 110 1 R (G Y) (CX (Y.map Yd.y))
 K:w.ownsRow Z.heap.size 126 5 O (G V) (xV V)
 cx:∀ q,Q5.ownBlock=A q->c q=2
 cy:∀ q,R.ownBlock=A q->c q=3
 ct:∀ q,O.ownBlock=A q->c q=4
 bk:∀ x,x∈V->sJ w (λq=>c q=5) x
 y9:∀ i (hi:i<G Y),dE w Y[i].S Y[i].y Y[i].vb Y[i].va Y[i].d
 ce:∀ i (hi:i<G Y) q,(Y[i].S q\/kz Y[i].y Y[i].vb Y[i].va q)->c q=10+i
 lt:∀ q,c q≠0->Z.heap.size<=q/\q<w.heap.size
def gZ {Q4 n k:Nat} {a:TypeId} {v:zV} {F:List zV} (h:w.ownsRow Q4 a k v n F) (d:Ks P w w') (b:∀ q,v.ownBlock=A q->¬ P q):w'.ownsRow Q4 a k v n F:=by
 rcases h.2 with ⟨rfl,M⟩|⟨g,K,L,rfl,N,D,S⟩
 .exact ⟨h.1,zR ⟨rfl,M⟩⟩
 .exact ⟨h.1,zZ ⟨g,K,L,rfl,N,(d.block g (cz.1 D).1 (b g rfl)).t D,S⟩⟩
def mC.Bi (h:mC Z U c Q5 R O Q6 Y V w) (f:Ks P w w') (b:i<G Y) (e:∀ q,P q->c q≠10+i):dE w' Y[i].S Y[i].y Y[i].vb Y[i].va Y[i].d:=
 (h.y9 i b).ks f (λq d a=>e q a (h.ce i b q (zZ d))) λq d a=>e q a (h.ce i b q (zR d))
def mC.ks (h:mC Z U c Q5 R O Q6 Y V w) (b:Ks P w w') (f:∀ q,P q->c q=0):mC Z U c Q5 R O Q6 Y V w':=by
 have d:∀ {q n},c q=n+1->¬ P q:=λg j=>by rw [f _ j] at g;cases g
 exact ⟨b.cells h.row (d h.cw),h.cw,gZ h.xs b λq a=>d (h.cx q a),gZ h.ys b λq a=>d (h.cy q a),gZ h.K b λq a=>d (h.ct q a),h.cx,h.cy,h.ct,λx l=>(h.bk x l).ks b λq a=>d a,λi k=>h.Bi b k λq a e=>by rw [f q a] at e;omega,h.ce,λq a=>⟨(h.lt q a).1,bG (h.lt q a).2 b.size⟩⟩
def mC.next (h:mC Z U c Q5 R O Q6 Y V w) (a:zB w w'):mC Z U c Q5 R O Q6 Y V w':=h.ks (P:=λ_=>False) (Ks.of a) λ_ h=>h.elim
def mC.col (h:mC Z U c Q5 R O Q6 Y V w) (d:∀ q,c q≠0->c q≠6->H q=c q) (k:∀ q,H q≠0->Z.heap.size<=q/\q<w.heap.size):mC Z U H Q5 R O Q6 Y V w:=by
 have b:∀ {q n},n≠0->n≠6->c q=n->H q=n:=λD f e=>by rw [d _ (by rw [e];exact D) (by rw [e];exact f),e]
 exact ⟨h.row,b (by decide) (by decide) h.cw,h.xs,h.ys,h.K,λq a=>b (by decide) (by decide) (h.cx q a),λq a=>b (by decide) (by decide) (h.cy q a),λq a=>b (by decide) (by decide) (h.ct q a),λx j=>(h.bk x j).wide λq a=>b (by decide) (by decide) a,h.y9,λi g q a=>b (by omega) (by omega) (h.ce i g q a),k⟩
def rc (c g:Nat->Nat) (w w':zW) (q:Nat):Nat:=if w.heap.size<=q/\q<w'.heap.size then g q else c q
def Bj {g:Nat->Nat} {q:Nat} (h:q<w.heap.size):rc c g w w' q=c q:=aA λa=>by omega
def RS {g:Nat->Nat} {q:Nat} (h:w.heap.size<=q) (a:q<w'.heap.size):rc c g w w' q=g q:=aB ⟨h,a⟩
def Ig {g:Nat->Nat} {q:Nat} (h:rc c g w w' q≠0):c q≠0\/(w.heap.size<=q/\q<w'.heap.size):=by
 unfold rc at h;split at h
 .rename_i a;exact zZ a
 .exact zR h
def jH.to (h:jH Z T E w) (d:Ks P w w') (f:∀ q,P q->T q) (m:∀ q,T q->Z.heap.size<=q) (j:∀ q,C q->T q\/(w.heap.size<=q/\q<w'.heap.size)):jH Z C E w':=by
 obtain ⟨g,k,F,l,n,c⟩:=h;refine ⟨g.t (d.low (λq a=>m q (f q a)) g.size),λq a=>?_,F,λi p=>(l i p).keep d λq a o=>(c i q a).2.1 (f q o),n,λi q a=>⟨(c i q a).1,λe=>?_,bG (c i q a).2.2 d.size⟩⟩
 .rcases j q a with b|b
  .exact bG (k q b) d.size
  .exact b.2
 .rcases j q e with b|b
  .exact (c i q a).2.1 b
  .have:=(c i q a).2.2;omega
def Kt.ks (h:Kt T w w') (b:zB Z w) (a:zB Z w'):Ks (λq=>¬ T q) w w':=⟨a.os.t b.os.symm,a.tape.t b.tape.symm,a.output.t b.output.symm,h.size,λk _ c=>h.block k (rz.1 c)⟩
def mC.ed {S':Nat->Prop} {d b:zV} {d':De} (h:mC Z U c Q5 R O Q6 Y V w) (t:i<G Y) (l:Ks (kz Y[i].y Y[i].vb Y[i].va) w w') (p:dE w' S' Y[i].y d b d') (Q0:∀ q,kz Y[i].y d b q->kz Y[i].y Y[i].vb Y[i].va q\/w.heap.size<=q) (u:∀ q,S' q->Y[i].S q\/w.heap.size<=q) :
  mC Z U (rc c (λ_=>10+i) w w') Q5 R O Q6 (Y.set i ⟨S',Y[i].y,d,b,d'⟩) V w':=by
 have s:∀ q,kz Y[i].y Y[i].vb Y[i].va q->c q=10+i:=λq a=>h.ce i t q (zZ a);have o:∀ {q n},n<10->c q=n->¬ kz Y[i].y Y[i].vb Y[i].va q:=λo z v=>by rw [s _ v] at z;omega
 have g:∀ {q n},n≠0->c q=n->rc c (λ_=>10+i) w w' q=n:=λK e=>by rw [Bj (h.lt _ (by rw [e];exact K)).2,e]
 refine ⟨l.cells h.row (o (by decide) h.cw),g (by decide) h.cw,gZ h.xs l λq a=>o (by decide) (h.cx q a),?_,gZ h.K l λq a=>o (by decide) (h.ct q a),λq a=>g (by decide) (h.cx q a),λq a=>g (by decide) (h.cy q a),λq a=>g (by decide) (h.ct q a),λx F=>((h.bk x F).ks l λq a=>o (by decide) a).wide λq a=>g (by decide) a,λj D=>?_,λj D q a=>?_,λq a=>?_⟩
 .have e:(Y.set i ⟨S',Y[i].y,d,b,d'⟩).map Yd.y=Y.map Yd.y:=by
   rw [List.map_set];refine rC (by simp) λk m C=>?_;rw [tj];split
   .rename_i e;subst e;simp
   .rfl
  rw [e,tu];exact gZ h.ys l λq a=>o (by decide) (h.cy q a)
 .have f:j<G Y:=(by rw [tu] at D;exact D);rw [tj];by_cases e:i=j
  .subst e;rw [aB rfl];exact p
  .rw [aA e];exact h.Bi l f λq a y=>by rw [s q a] at y;omega
 .have f:j<G Y:=(by rw [tu] at D;exact D);rw [tj] at a;by_cases e:i=j
  .subst e;rw [aB rfl] at a;have r:q<w'.heap.size:=a.elim (λa=>p.lt q a) λa=>p.CF q a;have:(Y[i].S q\/kz Y[i].y Y[i].vb Y[i].va q)\/w.heap.size<=q:=a.elim (λa=>(u q a).imp zR id) λa=>(Q0 q a).imp zZ id;rcases this with a|a
   .exact g (by omega) (h.ce i t q a)
   .exact RS a r
  .rw [aA e] at a;exact g (by omega) (h.ce j f q a)
 .rcases Ig a with m|m
  .exact ⟨(h.lt q m).1,bG (h.lt q m).2 l.size⟩
  .exact ⟨bf (lF (th (h.lt U (by rw [h.cw];decide)).1 (h.lt U (by rw [h.cw];decide)).2)) m.1,m.2⟩
def mC.kept {r:Ending} (h:mC Z U c Q5 R O Q6 Y V w) (Q0:∀ q,l.ownBlock=A q->c q=6) (o:dj w U Z.heap.size Q5 R O l V r w') :
  ∃ a x H P,r=zP (zp #[])/\mC Z U H Q5 R a Q6 Y (V++[x]) w'/\Ks P w w'/\(∀ q,P q->c q≠0)/\∀ q,H q≠0->c q≠0\/(w.heap.size<=q/\q<w'.heap.size):=by
 obtain ⟨a,x,rfl,s,hq,u,D,j⟩:=o;have QT:=h.lt U (by rw [h.cw];decide);have z:Z.heap.size<=w.heap.size:=(by omega);have QV:=s.size;have S:∀ {q n},n≠1->n≠6->n≠4->c q=n->¬ (q=U\/l.ownBlock=A q\/O.ownBlock=A q):=λb E C e o=>by
  rcases o with rfl|o|o
  .rw [h.cw] at e;exact b e.symm
  .rw [Q0 _ o] at e;exact E e.symm
  .rw [h.ct _ o] at e;exact C e.symm
 let H:Nat->Nat:=λq=>if q<w.heap.size then (if c q=6 then 5 else c q) else if q<w'.heap.size then (if a.ownBlock=A q then 4 else 5) else 0
 have d:∀ q,H q=if q<w.heap.size then (if c q=6 then 5 else c q) else if q<w'.heap.size then (if a.ownBlock=A q then 4 else 5) else 0:=λq=>rfl
 have p:∀ {q n},n≠0->n≠6->c q=n->H q=n:=λz E e=>by
  rw [d,aB (h.lt _ (by rw [e];exact z)).2,aA (by rw [e];exact E),e]
 have m:∀ q,w.heap.size<=q->q<w'.heap.size->H q=if a.ownBlock=A q then 4 else 5:=λq b k=>by
  rw [d,aA (by omega),aB k]
 refine ⟨a,x,H,_,rfl,⟨hq,p (by decide) (by decide) h.cw,gZ h.xs s λq K=>S (by decide) (by decide) (by decide) (h.cx q K),gZ h.ys s λq K=>S (by decide) (by decide) (by decide) (h.cy q K),u,λq K=>p (by decide) (by decide) (h.cx q K),λq K=>p (by decide) (by decide) (h.cy q K),λq K=>?_,λy t=>?_,λi F=>h.Bi s F λq K e=>S (by omega) (by omega) (by omega) e K,λi F q K=>p (by omega) (by omega) (h.ce i F q K),λq K=>?_⟩,s,λq K=>?_,λq K=>?_⟩
 .rcases D q K with b|b
  .exact p (by decide) (by decide) (h.ct q b)
  .rw [m q b (fJ u q K).2,aB K]
 .rcases cG.1 t with t|t
  .exact ((h.bk y t).ks s λq K=>S (by decide) (by decide) (by decide) K).wide λq K=>p (by decide) (by decide) K
  .rw [iB.1 t];have L:sJ w' (λq=>((l.ownBlock=A q\/w.heap.size<=q)/\a.ownBlock≠A q)/\q<w'.heap.size) x:=by
    have f:∀ {v:zV},ml w' (λq=>(l.ownBlock=A q\/w.heap.size<=q)/\a.ownBlock≠A q) v x.m->ml w' (λq=>((l.ownBlock=A q\/w.heap.size<=q)/\a.ownBlock≠A q)/\q<w'.heap.size) v x.m:=by
     rintro v ⟨N,n,c0,rfl,b,k⟩;refine ⟨N,n,c0,rfl,b,k.imp id ?_⟩;rintro ⟨g,rfl,G,C,M⟩;exact ⟨g,rfl,⟨G,C⟩,C,M⟩
    exact ⟨f j.1,f j.2.1,f j.2.2.1,f j.2.2.2⟩
   refine L.wide λq K=>?_;obtain ⟨⟨b,k⟩,G⟩:=K;rcases b with b|b
   .rw [d,aB (h.lt q (by rw [Q0 q b];decide)).2,aB (Q0 q b)]
   .rw [m q b G,aA k]
 .rw [d] at K;split at K
  .split at K
   .rename_i b k;exact ⟨(h.lt q (by rw [k];decide)).1,by omega⟩
   .exact ⟨(h.lt q K).1,by omega⟩
  .split at K
   .exact ⟨by omega,by assumption⟩
   .exact absurd rfl K
 .rcases K with rfl|K|K
  .rw [h.cw];decide
  .rw [Q0 q K];decide
  .rw [h.ct q K];decide
 .rw [d] at K;split at K
  .split at K
   .rename_i b k;exact zR (by rw [k];decide)
   .exact zR K
  .split at K
   .exact zZ ⟨by omega,by assumption⟩
   .exact absurd rfl K
end
end Go.Proofs.YtihgojcfpnhelaaGreatDoor
