import Derived.Test.YtihgojcfpnhelaaGreatDoorDb
import Derived.Test.YtihgojcfpnhelaaGreatDoorEm
import Derived.Test.YtihgojcfpnhelaaGreatDoorEk
set_option maxRecDepth 100000
set_option maxHeartbeats 4000000
set_option linter.all false
namespace Go.Proofs.YtihgojcfpnhelaaGreatDoor
open Go renaming World->zW,Value->zV,Calls->zC,Addr->zD
open Go.RowKit Go.Proofs.Tryz
open List renaming length→G
section
attribute [local go_sem] idx_eq app_eq
variable {w w' W:zW} {q cl cf i U j k:Nat} {al af:Option zD} {ts:List (By × Nat)} {fs:List RF} {no Z:Bool} {v v' u:Vl}
def af5 {c:UInt8} {r:By} (x:aw ts i=c::r) (D:cT c=true) (z:(G r)<=1000) (B:kv (c::r)) (C:cR (c::r)<=gP):eU q al cl af cf ts fs 263 #[eV q] i (1,(cR (c::r):Int)) (i+1) false:=by
 intro w h;have K:(i:Int)<=1000:=a6.2 (bf (lF (bP x aq)) h.tl);have y:=I h.pr;have L:=I x;have F:=h.lt;have M:q≠w.heap.size:=cZ F;have A:w.heap.size≠q:=cN F;clear h x;have t:dm (c.toNat:Int)=true:=D;have N:=I B;have O:=I C;have J:=I z;clear B C z D;generalize p:bm (c::r)=T;generalize f:(cR (c::r):Int)=P;have s:=I f;clear f;go_in;go_wp2_with (go_at_call 209;refine mo (fS y.o.at_) ?_;rintro e w1 ⟨rfl,k⟩);have m:=I (y.o.next k);clear k y;rw [L.o];obtain ⟨⟨r0,r1⟩,⟨b,a⟩,d⟩:=m.o.rows;obtain ⟨⟨R,S,H,Q⟩,⟨f0,f1,f2,f3⟩,n⟩:=aX m.o.at_.row;apply I;go_wp2_with (go_at_call 76;refine mo (dD _ _) ?_;rintro e w2 ⟨rfl,g⟩);have u:=I ((m.o.inc (i+1)).next g);clear g m r0 r1 b a d;clear R S H Q f0 f1 f2 f3 n;obtain ⟨⟨r0,r1⟩,⟨b,a⟩,d⟩:=u.o.rows
 try rw [p]
 apply I;go_wp2_with (go_at_call 109;refine mo (bR (c.toNat:Int) _) ?_;rintro e w3 ⟨rfl,rfl⟩)
 try rw [t]
 apply I;go_wp2_with (go_at_call 125;refine mo (zr c r _ J.o N.o O.o) ?_;rintro e w4 ⟨rfl,l⟩);have o:=I (u.o.next l);clear l u r0 r1 b a d;obtain ⟨⟨r0,r1⟩,⟨b,a⟩,d⟩:=o.o.rows
 try rw [s.o]
 apply I;go_wp2_with (go_at_call 262;refine mo (zy _ _) ?_;rintro e U ⟨rfl,j⟩);have E:=I (o.o.next j);clear j o r0 r1 b a d;obtain ⟨⟨r0,r1⟩,⟨b,a⟩,d⟩:=E.o.rows;apply I;go_wp2_with fail;refine aK (v:=gH (1,P)) zF rfl ?_;exact ⟨rfl,E.o.o _ _⟩
def af6 (m:aw ts i=[116,114,117,101]):eU q al cl af cf ts fs 263 #[eV q] i (bD true) (i+1) false:=by
 intro w h;have z:(i:Int)<=1000:=a6.2 (bf (lF (bP m aq)) h.tl);have o:=I h.pr;have A:=I m;have t:=h.lt;have B:q≠w.heap.size:=cZ t;have r:w.heap.size≠q:=cN t;clear h m;have n:dm 116=false:=ai;have l:bm [116,114,117,101]=false:=ai;go_in;go_wp2_with (go_at_call 209;refine mo (fS o.o.at_) ?_;rintro e w1 ⟨rfl,d⟩);have j:=I (o.o.next d);clear d o;rw [A.o];obtain ⟨⟨r0,r1⟩,⟨b,a⟩,c⟩:=j.o.rows;obtain ⟨⟨u,x,y,C⟩,⟨f0,f1,f2,f3⟩,k⟩:=aX j.o.at_.row;apply I;go_wp2_with (go_at_call 76;refine mo (dD _ _) ?_;rintro e w2 ⟨rfl,f⟩);have p:=I ((j.o.inc (i+1)).next f);clear f j r0 r1 b a c;clear u x y C f0 f1 f2 f3 k;obtain ⟨⟨r0,r1⟩,⟨b,a⟩,c⟩:=p.o.rows
 try rw [l]
 apply I;go_wp2_with (go_at_call 109;refine mo (bR 116 _) ?_;rintro e w3 ⟨rfl,rfl⟩)
 try rw [n]
 apply I;go_wp2_with (go_at_call 254;refine mo (vq _ _) ?_;rintro e w4 ⟨rfl,g⟩);have s:=I (p.o.next g);clear g p r0 r1 b a c;obtain ⟨⟨r0,r1⟩,⟨b,a⟩,c⟩:=s.o.rows;apply I;go_wp2_with fail;refine aK (v:=gH (bD true)) zF rfl ?_;exact ⟨rfl,s.o.o _ _⟩
def af7 (m:aw ts i=[102,97,108,115,101]):eU q al cl af cf ts fs 263 #[eV q] i (bD false) (i+1) false:=by
 intro w h;have z:(i:Int)<=1000:=a6.2 (bf (lF (bP m aq)) h.tl);have o:=I h.pr;have A:=I m;have t:=h.lt;have B:q≠w.heap.size:=cZ t;have r:w.heap.size≠q:=cN t;clear h m;have n:dm 102=false:=ai;have l:bm [102,97,108,115,101]=false:=ai;go_in;go_wp2_with (go_at_call 209;refine mo (fS o.o.at_) ?_;rintro e w1 ⟨rfl,d⟩);have j:=I (o.o.next d);clear d o;rw [A.o];obtain ⟨⟨r0,r1⟩,⟨b,a⟩,c⟩:=j.o.rows;obtain ⟨⟨u,x,y,C⟩,⟨f0,f1,f2,f3⟩,k⟩:=aX j.o.at_.row;apply I;go_wp2_with (go_at_call 76;refine mo (dD _ _) ?_;rintro e w2 ⟨rfl,f⟩);have p:=I ((j.o.inc (i+1)).next f);clear f j r0 r1 b a c;clear u x y C f0 f1 f2 f3 k;obtain ⟨⟨r0,r1⟩,⟨b,a⟩,c⟩:=p.o.rows
 try rw [l]
 apply I;go_wp2_with (go_at_call 109;refine mo (bR 102 _) ?_;rintro e w3 ⟨rfl,rfl⟩)
 try rw [n]
 apply I;go_wp2_with (go_at_call 254;refine mo (vq _ _) ?_;rintro e w4 ⟨rfl,g⟩);have s:=I (p.o.next g);clear g p r0 r1 b a c;obtain ⟨⟨r0,r1⟩,⟨b,a⟩,c⟩:=s.o.rows;apply I;go_wp2_with fail;refine aK (v:=gH (bD false)) zF rfl ?_;exact ⟨rfl,s.o.o _ _⟩
def adr {c:UInt8} {r:By} (u:aw ts i=c::r) (A:cT c=false) (p:bm (c::r)=true):eU q al cl af cf ts fs 263 #[eV q] i (eO fs (c::r)) (i+1) (decide ((eO fs (c::r)).1=0)):=by
 obtain ⟨t,l⟩:∃ t,Hid (eO fs (c::r)=t):=⟨_,I rfl⟩;rw [l.o];intro w h;have D:(i:Int)<=1000:=a6.2 (bf (lF (bP u aq)) h.tl);have x:=I h.pr;have E:=I u;have B:=h.lt;have F:q≠w.heap.size:=cZ B;have y:w.heap.size≠q:=cN B;clear h u;have s:dm (c.toNat:Int)=false:=A;have e1:((c::r) == [116,114,117,101])=false:=bo.2 (fD _ _ p ai);have K:((c::r) == [102,97,108,115,101])=false:=bo.2 (fD _ _ p ai);clear A;go_in;go_wp2_with (go_at_call 209;refine mo (fS x.o.at_) ?_;rintro e w1 ⟨rfl,k⟩);have n:=I (x.o.next k);clear k x;rw [E.o];obtain ⟨⟨r0,r1⟩,⟨b,a⟩,d⟩:=n.o.rows;obtain ⟨⟨H,J,C,G⟩,⟨f0,f1,f2,f3⟩,o⟩:=aX n.o.at_.row;apply I;go_wp2_with (go_at_call 76;refine mo (dD _ _) ?_;rintro e w2 ⟨rfl,g⟩);have m:=I ((n.o.inc (i+1)).next g);clear g n r0 r1 b a d;clear H J C G f0 f1 f2 f3 o;obtain ⟨⟨r0,r1⟩,⟨b,a⟩,d⟩:=m.o.rows
 try rw [p]
 apply I;go_wp2_with (go_at_call 109;refine mo (bR (c.toNat:Int) _) ?_;rintro e w3 ⟨rfl,rfl⟩)
 try rw [s]
 apply I;go_wp2_with (go_at_call 264;refine (Vz (c::r) m.o.at_).m ?_;rw [l.o];rintro e w4 ⟨rfl,j,f⟩;apply Hid.o);have z:=I (m.o.call f j);clear f j m r0 r1 b a d;obtain ⟨⟨r0,r1⟩,⟨b,a⟩,d⟩:=z.o.rows;apply I;go_wp2_with fail;refine aK (v:=gH t) zF rfl ?_;exact ⟨rfl,z.o.o _ _⟩
def af8 (H:aw ts i=[45]) (O:eU q al cl af cf ts fs 263 #[eV q] (i+1) v j no):eU q al cl af cf ts fs 263 #[eV q] i (if no=true then v else iW (aP 1 v)) j no:=by
 obtain ⟨y,d⟩:∃ y,Hid ((if no=true then v else iW (aP 1 v))=y):=⟨_,I rfl⟩;rw [d.o];intro w h;have V:(i:Int)<=1000:=a6.2 (bf (lF (bP H aq)) h.tl);have K:=I h.pr;have W:=I H;have P:=h.lt;have Y:q≠w.heap.size:=cZ P;have M:w.heap.size≠q:=cN P;clear h H;have J:dm 45=false:=ai;have F:bm [45]=false:=ai;have X:=I O;clear O;go_in;go_wp2_with (go_at_call 209;refine mo (fS K.o.at_) ?_;rintro e w1 ⟨rfl,p⟩);have C:=I (K.o.next p);clear p K;rw [W.o];obtain ⟨⟨r0,r1⟩,⟨b,a⟩,c⟩:=C.o.rows;obtain ⟨⟨R,S,T,k3⟩,⟨f0,f1,f2,f3⟩,E⟩:=aX C.o.at_.row;apply I;go_wp2_with (go_at_call 76;refine mo (dD _ _) ?_;rintro e w2 ⟨rfl,s⟩);have D:=I ((C.o.inc (i+1)).next s);clear s C r0 r1 b a c;clear R S T k3 f0 f1 f2 f3 E;obtain ⟨⟨r0,r1⟩,⟨b,a⟩,c⟩:=D.o.rows
 try rw [F]
 apply I;go_wp2_with (go_at_call 109;refine mo (bR 45 _) ?_;rintro e w3 ⟨rfl,rfl⟩)
 try rw [J]
 apply I;go_wp2_with (go_at_call 263;refine mo (X.o _ D.o.at_) ?_;rintro e w4 ⟨rfl,z,r⟩);have t:=I (D.o.call r z);clear r z D r0 r1 b a c;have hne:=cZ t.o.rows.2.2;have N:=cN t.o.rows.2.2;apply I;go_wp2_with (go_at_call 210;refine mo (dC v (t.o.new v).at_) ?_;rintro e w5 ⟨rfl,o⟩);have n:=I ((t.o.new v).next o);clear o t;obtain ⟨⟨⟨r0,r1⟩,⟨b,a⟩,c⟩,⟨B,A⟩,⟨l,g⟩,k⟩:=n.o.rows;cases hs:dY v no
 ·obtain ⟨L,m⟩:=I4 hs;subst L;by_cases hv:v.1=1
  ·have G:(v.1 == 1)=true:=G5;have x:=I (show y=(1,wrap64 (-v.2)) by rw [<- d.o,aA aq,show aP 1 v=v from aA (λh=>h.1 hv)];exact (aA m).t rfl);clear hv m d;apply I;go_wp2_with (go_at_call 262;refine mo (zy _ _) ?_;rintro e Z ⟨rfl,f⟩);have u:=I (n.o.next f);clear f n r0 r1 b a c B A l g k;obtain ⟨⟨⟨r0,r1⟩,⟨b,a⟩,c⟩,⟨B,A⟩,⟨l,g⟩,k⟩:=u.o.rows;generalize wrap64 (-v.2)=U at *;apply I;go_wp2_with fail;refine aK (v:=gH (1,U)) zF rfl ?_;rw [x.o];exact ⟨rfl,u.o.o _ _⟩
  ·have G:(v.1 == 1)=false:=G5;have x:=I (show y=cL 2 by rw [<- d.o,aA aq];unfold aP;rw [aB ⟨hv,m⟩];rfl);clear hv m d;apply I;go_wp2_with (go_at_call 211;refine mo (mR _ _) ?_;rintro e Z ⟨rfl,f⟩);have u:=I (n.o.next f);clear f n r0 r1 b a c B A l g k;obtain ⟨⟨⟨r0,r1⟩,⟨b,a⟩,c⟩,⟨B,A⟩,⟨l,g⟩,k⟩:=u.o.rows;apply I;go_wp2_with fail;refine aK (v:=gH (cL 2)) zF rfl ?_;rw [x.o];exact ⟨rfl,u.o.o _ _⟩
 ·have x:=I (show y=v from by
   rw [<- d.o];rcases nJ hs with rfl|⟨rfl,Q⟩
   ·rfl
   ·rw [aA aq,yf Q];unfold iW;rw [aB Q])
  clear d;apply I;go_wp2_with fail;refine aK (v:=gH v) zF rfl ?_;rw [x.o];exact ⟨rfl,n.o.o _ _⟩
def ajM (x:aw ts i=[40]) (G:eU q al cl af cf ts fs 155 #[eV q] (i+1) v j no) (A:aw ts j=[41]):eU q al cl af cf ts fs 263 #[eV q] i v (j+1) no:=by
 intro w h;have L:(j:Int)<=1000:=a6.2 (bf (lF (bP A aq)) h.tl);have N:(i:Int)<=1000:=a6.2 (bf (lF (bP x aq)) h.tl);have z:=I h.pr;have O:=I x;have K:=h.lt;have Q:q≠w.heap.size:=cZ K;have E:w.heap.size≠q:=cN K;clear h x;have y:dm 40=false:=ai;have u:bm [40]=false:=ai;have P:=I G;clear G;go_in;go_wp2_with (go_at_call 209;refine mo (fS z.o.at_) ?_;rintro e w1 ⟨rfl,g⟩);have s:=I (z.o.next g);clear g z;rw [O.o];obtain ⟨⟨r,p⟩,⟨b,a⟩,c⟩:=s.o.rows;obtain ⟨⟨B,C,D,J⟩,⟨f0,f1,f2,f3⟩,f⟩:=aX s.o.at_.row;apply I;go_wp2_with (go_at_call 76;refine mo (dD _ _) ?_;rintro e w2 ⟨rfl,l⟩);have t:=I ((s.o.inc (i+1)).next l);clear l s r p b a c;clear B C D J f0 f1 f2 f3 f;obtain ⟨⟨r,p⟩,⟨b,a⟩,c⟩:=t.o.rows
 try rw [u]
 apply I;go_wp2_with (go_at_call 109;refine mo (bR 40 _) ?_;rintro e w3 ⟨rfl,rfl⟩)
 try rw [y]
 apply I;go_wp2_with (go_at_call 155;refine mo (P.o _ t.o.at_) ?_;rintro e w4 ⟨rfl,n,k⟩);have d:=I (t.o.call k n);clear k n t r p b a c;have S:=cZ d.o.rows.2.2;have F:=cN d.o.rows.2.2;have R:q≠w4.heap.size:=cZ d.o.at_.lt;have H:w4.heap.size≠q:=cN d.o.at_.lt;obtain ⟨⟨r,p⟩,⟨b,a⟩,c⟩:=d.o.rows;obtain ⟨⟨B,C,D,J⟩,⟨f0,f1,f2,f3⟩,f⟩:=aX d.o.at_.row;obtain ⟨W3,m⟩:∃ W3,Hid ((((w4.setCell ⟨q,1,none⟩ (zI ((j:Int)+1))).setCell ⟨w.heap.size,0,none⟩ (zI v.1)).setCell ⟨w.heap.size,1,none⟩ (zI v.2))=W3):=⟨_,I rfl⟩;have o:Hid ((gp q al cl af cf ts fs W3 (j+1) no/\Kp q w W3)/\W3.heap[w.heap.size]?=some (.cells #[zI v.1,zI v.2] 129 (0,0))):=I (m.o▸⟨(d.o.inc (j+1)).o _ _,((aj ((aj (d.o.inc (j+1)).r0 0 _).t rfl) 1 _).t rfl)⟩);apply I;go_wp2_with fail;rw [m.o];obtain ⟨⟨z0,T⟩,-,M⟩:=cq (tP o.o.2 (.cells #[zI v.1,zI v.2] 129));refine aK (v:=gH v) (by simp [results,results263,go_sem,z0,T]) rfl ?_;exact ⟨rfl,o.o.1.1.next (bI _ _),o.o.1.2.next (bI _ _) o.o.1.1.lt⟩
variable {v u vb va O U:zV} {P S S':Nat->Prop} {y:Nat} {V:List (List RF)} {l:List RF} {Z:List zV} {d:De}
def J2 (b:TypeId) (h:dA w v Z) (y:(G Z)<=1000000) (n:∀ x∈Z,x.oneCell'=true) :
  ∃ v' w',(Builtin.append_ #[112,112] b #[zN,v]).run prog w=.ok v' w'/\dA w' v' Z/\zB w w'/\∀ q,v'.ownBlock=some q->w.heap.size<=q:=by
 obtain ⟨l,m,c,f,d⟩:=fe abl;rcases h with ⟨rfl,rfl⟩|⟨g,o,i,rfl,t,z,u,s,g6⟩
 ·exact ⟨zN,w,run_append_owned_none (P:=prog) w w.heap.size _ b _ l 1 underlying112 m _ 0 [] (eW _ _ _ _),Or.inl ⟨rfl,rfl⟩,aM _ _,λq hq=>pI⟩
 ·obtain ⟨v',w',p,e,a,_⟩:=run_append_own (P:=prog) w w.heap.size _ b _ l _ 1 24 underlying112 m c f d rfl ai (zN) 0 [] (eW _ _ _ _) ⟨g,o,none⟩ (G Z) i Z ae (λj x hx=>aaz) n jM ae (aG _);rw [cS,ko] at e;refine ⟨v',w',p,dA.own e,⟨a.os,a.tape,a.output,a.size,λk r=>a.block k r (by simp [Value.ownBlock])⟩,λq hq=>?_⟩;exact (fJ e q hq).1
def tQ {b:Array Oper} {rest:List Oper} {o:Oper} {a:Act} {Q:Exit->Act->zW->Prop} (c:o.guard=none) (s x:Operand)
  (k:o.op=.call { callee:=.builtin .append,args:=#[s,x],argTypes:=#[112,112] }) (hs:a.eval s=zN) (m:a.eval x=v) (h:dA w v Z) (j:(G Z)<=1000000) (d:∀ x∈Z,x.oneCell'=true)
  (e:∀ v' w',dA w' v' Z->zB w w'->(∀ q,v'.ownBlock=some q->w.heap.size<=q)->wpList prog b Q rest (a.put o.dst v') w'):wpList prog b Q (o::rest) a w:=by
 obtain ⟨v',w',i,l,g,f⟩:=J2 o.type h j d;exact Lib.wpList_append_run w c s x _ _ k _ _ hs m v' w' i (e v' w' l g f)
def nO.one {us:List zV} (h:nO w S us V):∀ x∈us,x.oneCell'=true:=by
 intro x f;obtain ⟨j,d,rfl⟩:=e9 f;have b:j<(G V):=h.1▸d;obtain ⟨⟨_,a,c,e,_⟩,_⟩:=h.2 j us[j] V[j] (cU d) (cU b);rw [e];rfl
def Ks.new {R:Nat->Prop} {w1 w2:zW} (h:Ks P w w1) (g:Ks R w1 w2) (b:∀ q,R q->w.heap.size<=q):Ks P w w2:=
 ⟨g.os.t h.os,g.tape.t h.tape,g.output.t h.output,bf h.size g.size,λk a c=>(g.block k (bG a h.size) λd=>iC _ (bG a (b k d))).t (h.block k a c)⟩
def lZ (d:De):Nat × De:=if d.op=true then (9,d) else match d.bk.getLast? with
 | none=>(11,d)
 | some f=>(0,{ d with fs:=f,bk:=d.bk.dropLast,ag:=d.ag++[d.fs] })
def l6 (d:De):Nat × De:=if d.op=true then (9,d) else match d.ag.getLast? with
 | none=>(11,d)
 | some f=>(0,{ d with fs:=f,ag:=d.ag.dropLast,bk:=eI (d.bk++[d.fs]) d.M })
def J3 (S:Nat->Prop) (y:Nat) (vb va:zV) (x:Nat × De) (w:zW) (r:Ending) (w':zW):Prop:=
 ∃ O U,r=.returned (zI (x.1:Int))/\dE w' S y O U x.2/\Ks (kz y vb va) w w'/\∀ q,kz y O U q->kz y vb va q\/w.heap.size<=q
def TB (h:dE w S y vb va d) (hl9:(G d.ag)<=900):zC prog 124 #[zJ y,.bool true] w (J3 S y vb va (lZ d) w):=by
 obtain ⟨vf,Z,hr,hf,hs⟩:=h.row;obtain ⟨⟨c0,c1,c2,c3,c4,c5⟩,⟨z0,L,O,R,K,P⟩,hz⟩:=eC hr;obtain ⟨us,SY,oQ,AH⟩:=h.bk;obtain ⟨gs,has,xD,Ea⟩:=h.ag;have HH:=I h;obtain ⟨ba,v,rfl,hb3,hb4⟩:=SY.len;obtain ⟨aa,ac,rfl,ha3,ha4⟩:=has.len;cases hop:d.op
 ·rcases SY with ⟨e1,rfl⟩|⟨g,o,bc',e1,g2,g3,g4,W,Q⟩
  ·have HE:Hid (lZ d=(11,d)):=I (by
    have:d.bk=[]:=oD oQ.symm;unfold lZ;rw [hop,this];rfl)
   cases e1;rw [hop] at c4;clear h hr hf hs oQ AH has xD Ea;rw [HE.o];go_in;go_wp2_with fail;go_ret;exact ⟨_,_,rfl,HH.o,Ks.refl _ _,λq hq=>Or.inl hq⟩
  ·cases e1;rcases List.eq_nil_or_concat us with rfl|⟨ie,x,e⟩
   ·have HE:Hid (lZ d=(11,d)):=I (by
     have:d.bk=[]:=oD oQ.symm;unfold lZ;rw [hop,this];rfl)
    rw [hop] at c4;clear h hr hf hs oQ AH has xD Ea W Q;rw [HE.o];go_in;go_wp2_with fail;go_ret;exact ⟨_,_,rfl,HH.o,Ks.refl _ _,λq hq=>Or.inl hq⟩
   ·have he:nO w S us d.bk:=⟨oQ,AH⟩;obtain ⟨sP,f,Gx⟩:∃ sP f,d.bk=sP++[f]:=by
     rcases List.eq_nil_or_concat d.bk with e'|⟨b0,f,e'⟩
     ·rw [e',e] at oQ;simp at oQ
     ·exact ⟨b0,f,aaR⟩
    rw [List.concat_eq_append] at e;have hn:(G us)=G ie+1:=pL;have t:us[G ie]?=some x:=pL;have C:d.bk[G ie]?=some f:=Y2;obtain ⟨A,E⟩:=AH _ _ _ t C;have cx:=Q _ _ t;have HE:Hid (lZ d=(0,{ d with fs:=f,bk:=sP,ag:=d.ag++[d.fs] })):=I (by
     unfold lZ;rw [hop,Gx];simp)
    rw [hop] at c4;rw [HE.o];have Ta:Hid (dA w (.slice (some ⟨g,o,none⟩) (G ie) v) ie):=I (by
     have:dA w (.slice (some ⟨g,o,none⟩) (G us) v) us:=Or.inr ⟨g,o,v,rfl,g2,g3,g4,W,Q⟩;have:=this.take (k:=G ie) ae;rw [show us.take (G ie)=ie from pL] at this;exact this)
    have X:Hid (nO w S ie sP):=I (by
     have:=he.take (G ie);rw [show us.take (G ie)=ie from pL,show d.bk.take (G ie)=sP by
      have:(G ie)=(G sP):=Y3;rw [Gx,this];simp] at this
     exact this)
    have D:=I (show dA w (.slice aa (G gs) ac) gs/\nO w S gs d.ag from ⟨has,xD,Ea⟩);have HR:=I hr;have HF:=I hf;have HS:=I hs;have HX:=I (show dU w x f/\BS S x from ⟨A,E⟩);obtain ⟨-,M,J,rfl,-⟩:=id A;obtain ⟨-,fa,fc,rfl,-⟩:=id hf.1;have xE:(G gs)<=1000:=by rw [xD];exact h.len.2
    have hni:((G ie):Int)<=1000:=by have T:=h.len.1;rw [<- oQ,hn] at T;exact a6.2 (Nat.le_of_succ_le T)
    have HKY:Hid (∀ u,Ks (λq=>q=y) w (w.setCell ⟨y,0,none⟩ u)):=I λu=>(Ks.refl (λq=>q=y) w).set y 0 u rfl;have Y:Hid (G sP<=1000/\(d.ag++[d.fs]).length<=1000):=I ⟨by have:=h.len.1;rw [Gx] at this;simp at this;omega,aN⟩;have V:Hid (dA (w.setCell ⟨y,0,none⟩ (.slice M (G f) J)) (.slice aa (G gs) ac) gs):=I (has.ks (HKY.o _) λq hq e=>h.ny.2 (e▸hq));have H:Hid (G gs<=1000000):=I ae;obtain ⟨j,s⟩:∃ j,Hid (gs++[Value.slice fa (G d.fs) fc]=j):=⟨_,I rfl⟩;clear h hr hf hs oQ AH has xD Ea he W Q t C A E;generalize (G us)=ul at *;subst hn;go_in;go_wp2_with (at_builtin;refine tQ rfl (.tmp 51) (.tmp 52) rfl rfl rfl V.o H.o D.o.2.one ?_;intro v1 w1 c z n;apply Hid.o);obtain ⟨a1,l1,rfl,-,-⟩:=c.len;have HR1:=I c;have vA:=I z;have MB:=I n;have B:Hid (w1.heap[y]?=some (.cells #[.slice M (G f) J,.slice (some ⟨g,o,none⟩) (G ie+1) v,.slice aa (G gs) ac,zI d.M,.bool d.op,Z] 114 (0,0))):=I ((z.block y Oq).t (ju HR.o).1);clear c z n c0 c1 c2 c3 c4 c5 z0 L O R K P;obtain ⟨⟨c0,c1,c2,c3,c4,c5⟩,⟨z0,L,O,R,K,P⟩,hz1⟩:=eC B.o;apply I;go_wp2_with (at_builtin;refine rL rfl (.tmp 54) (.tmp 56) rfl rfl (HR1.o.next (bI _ _)) H.o rfl (bC w1 [.slice fa (G d.fs) fc] 111 0 _ rfl) rfl ?_;intro v2 w2 a m l;apply Hid.o);rw [s.o] at a;obtain ⟨U,N,rfl,-,-⟩:=a.len;have TC:(Value.slice a1 (G gs) l1).ownBlock≠some y:=λe=>iC _ (bG hz aan);have wK:=I a;have HK2:=I m;have HO2:=I l;have r:=I (m.cells (tP B.o _) TC);clear a m l c0 c1 c2 c3 c4 c5 z0 L O R K P;obtain ⟨⟨c0,c1,c2,c3,c4,c5⟩,⟨z0,L,O,R,K,P⟩,hz2⟩:=eC r.o;apply I;go_wp2_with fail;go_ret;have hzz:(w.setCell ⟨y,0,none⟩ (.slice M (G f) J)).heap.size=w.heap.size:=aq;have hkY:Ks (λq=>q=y) w w2:=((((Ks.refl (λq=>q=y) w).set y 0 (.slice M (G f) J) rfl).t (Ks.of vA.o)).alloc _).new HK2.o λq hq=>hzz▸MB.o q hq;have i:Ks (λq=>q=y) w ((w2.setCell ⟨y,1,none⟩ (.slice (some ⟨g,o,none⟩) (G ie) v)).setCell ⟨y,2,none⟩ (.slice U (G j) N)):=(hkY.set y 1 _ rfl).set y 2 _ rfl;have hke:Ks (λq=>q=y) w2 ((w2.setCell ⟨y,1,none⟩ (.slice (some ⟨g,o,none⟩) (G ie) v)).setCell ⟨y,2,none⟩ (.slice U (G j) N)):=((Ks.refl (λq=>q=y) w2).set y 1 _ rfl).set y 2 _ rfl;have b:∀ q,(Value.slice U (G j) N).ownBlock=some q->w.heap.size<=q:=λq hq=>WT;have p:∀ q,S q->¬ q=y:=λq hq e'=>HH.o.nS q hq (Or.inl e');have F:g≠y:=λe'=>HH.o.ny.1 (by rw [e'];rfl);refine ⟨.slice (some ⟨g,o,none⟩) (G ie) v,.slice U (G j) N,rfl,HH.o.put (d':={ d with fs:=f,bk:=sP,ag:=d.ag++[d.fs] }) (i.wide λq hq=>Or.inl hq) (ju (ju r.o).2.1).2.2.1 ⟨HX.o.1.ks i λq hq=>p q (HX.o.2 q hq),HX.o.2⟩ ⟨HS.o.1.ks i λq hq=>p q (HS.o.2 q hq),HS.o.2⟩ (pE.mk (Ta.o.ks i λq hq e'=>F GQ) (X.o.ks i p)) (pE.mk (wK.o.ks hke λq hq e'=>iC _ (bG hz (e'▸b q hq))) ?_) rfl ?_ ?_ ?_,i.wide λq hq=>Or.inl hq,?_⟩
    ·have:=(D.o.2.snoc HF.o.1 HF.o.2).ks i p;rw [s.o] at this;exact this
    ·exact Y.o
    ·intro q hq;refine ⟨λe'=>F GQ,λhs=>HH.o.nS q hs (Or.inr (Or.inl hq)),λe'=>?_⟩;have T:=b q e';have h2:=HH.o.CF q (Or.inr (Or.inl hq));exact iC _ (bG h2 T)
    ·intro q hq;exact ⟨λe'=>iC _ (bG hz (e'▸b q hq)),λhs=>iC _ (bG (HH.o.lt q hs) (b q hq))⟩
    ·rintro q (rfl|hq|hq)
     ·exact Or.inl (Or.inl rfl)
     ·exact Or.inl (Or.inr (Or.inl hq))
     ·exact Or.inr (b q hq)
 ·have HE:Hid (lZ d=(9,d)):=I (by unfold lZ;rw [aB hop]);exact Xg
def TD (h:dE w S y vb va d) (hl9:(G d.bk)<=900):zC prog 124 #[zJ y,.bool false] w (J3 S y vb va (l6 d) w):=by
 obtain ⟨vf,Z,hr,hf,hs⟩:=h.row;obtain ⟨⟨c0,c1,c2,c3,c4,c5⟩,⟨z0,R,T,X,Q,U⟩,hz⟩:=eC hr;obtain ⟨us,SY,oQ,AH⟩:=h.ag;obtain ⟨gs,has,xD,Ea⟩:=h.bk;have HH:=I h;obtain ⟨ba,r,rfl,hb3,hb4⟩:=SY.len;obtain ⟨aa,ac,rfl,ha3,ha4⟩:=has.len;cases hop:d.op
 ·rcases SY with ⟨e1,rfl⟩|⟨g,o,bc',e1,g2,g3,g4,g5,W⟩
  ·have HE:Hid (l6 d=(11,d)):=I (by
    have:d.ag=[]:=oD oQ.symm;unfold l6;rw [hop,this];rfl)
   cases e1;rw [hop] at c4;clear h hr hf hs oQ AH has xD Ea;rw [HE.o];go_in;go_wp2_with fail;go_ret;exact ⟨_,_,rfl,HH.o,Ks.refl _ _,λq hq=>Or.inl hq⟩
  ·cases e1;rcases List.eq_nil_or_concat us with rfl|⟨ie,x,e⟩
   ·have HE:Hid (l6 d=(11,d)):=I (by
     have:d.ag=[]:=oD oQ.symm;unfold l6;rw [hop,this];rfl)
    rw [hop] at c4;clear h hr hf hs oQ AH has xD Ea g5 W;rw [HE.o];go_in;go_wp2_with fail;go_ret;exact ⟨_,_,rfl,HH.o,Ks.refl _ _,λq hq=>Or.inl hq⟩
   ·have he:nO w S us d.ag:=⟨oQ,AH⟩;obtain ⟨sP,f,Gx⟩:∃ sP f,d.ag=sP++[f]:=by
     rcases List.eq_nil_or_concat d.ag with e'|⟨b0,f,e'⟩
     ·rw [e',e] at oQ;simp at oQ
     ·exact ⟨b0,f,aaR⟩
    rw [List.concat_eq_append] at e;have hn:(G us)=G ie+1:=pL;have z:us[G ie]?=some x:=pL;have E:d.ag[G ie]?=some f:=Y2;obtain ⟨B,M⟩:=AH _ _ _ z E;have cx:=W _ _ z;have HE:Hid (l6 d=(0,{ d with fs:=f,ag:=sP,bk:=eI (d.bk++[d.fs]) d.M })):=I (by
     unfold l6;rw [hop,Gx];simp)
    rw [hop] at c4;rw [HE.o];have Ta:Hid (dA w (.slice (some ⟨g,o,none⟩) (G ie) r) ie):=I (by
     have:dA w (.slice (some ⟨g,o,none⟩) (G us) r) us:=Or.inr ⟨g,o,r,rfl,g2,g3,g4,g5,W⟩;have:=this.take (k:=G ie) ae;rw [show us.take (G ie)=ie from pL] at this;exact this)
    have HBK:Hid (nO w S ie sP):=I (by
     have:=he.take (G ie);rw [show us.take (G ie)=ie from pL,show d.ag.take (G ie)=sP by
      have:(G ie)=(G sP):=Y3;rw [Gx,this];simp] at this
     exact this)
    have L:=I (show dA w (.slice aa (G gs) ac) gs/\nO w S gs d.bk from ⟨has,xD,Ea⟩);have HR:=I hr;have HF:=I hf;have HS:=I hs;have HX:=I (show dU w x f/\BS S x from ⟨B,M⟩);obtain ⟨-,K,D,rfl,-⟩:=id B;obtain ⟨-,fa,fc,rfl,-⟩:=id hf.1;have xE:(G gs)<=1000:=by rw [xD];exact h.len.1
    have hni:((G ie):Int)<=1000:=by have h1:=h.len.2;rw [<- oQ,hn] at h1;exact a6.2 (Nat.le_of_succ_le h1)
    have HKY:Hid (∀ u,Ks (λq=>q=y) w (w.setCell ⟨y,0,none⟩ u)):=I λu=>(Ks.refl (λq=>q=y) w).set y 0 u rfl;have HLB:Hid ((eI (d.bk++[d.fs]) d.M).length<=1000/\(G sP)<=1000):=I ⟨by unfold eI;rw [mG,b6];simp;omega,by have:=h.len.2;rw [Gx] at this;simp at this;omega⟩;have H:=I xE;have HRA:Hid (dA (w.setCell ⟨y,0,none⟩ (.slice K (G f) D)) (.slice aa (G gs) ac) gs):=I (has.ks (HKY.o _) λq hq e=>h.ny.1 (e▸hq));have P:Hid (G gs<=1000000):=I ae;obtain ⟨b,p⟩:∃ b,Hid (gs++[Value.slice fa (G d.fs) fc]=b):=⟨_,I rfl⟩;clear h hr hf hs oQ AH has xD Ea he g5 W z E B M;generalize (G us)=ul at *;subst hn;go_in;go_wp2_with (at_builtin;refine tQ rfl (.tmp 51) (.tmp 52) rfl rfl rfl HRA.o P.o L.o.2.one ?_;intro v1 w1 i A n;apply Hid.o);obtain ⟨a1,l1,rfl,-,-⟩:=i.len;have HR1:=I i;have vA:=I A;have MB:=I n;have C:Hid (w1.heap[y]?=some (.cells #[.slice K (G f) D,.slice aa (G gs) ac,.slice (some ⟨g,o,none⟩) (G ie+1) r,zI d.M,.bool d.op,Z] 114 (0,0))):=I ((A.block y Oq).t (ju HR.o).1);clear i A n c0 c1 c2 c3 c4 c5 z0 R T X Q U;obtain ⟨⟨c0,c1,c2,c3,c4,c5⟩,⟨z0,R,T,X,Q,U⟩,hz1⟩:=eC C.o;apply I;go_wp2_with (at_builtin;refine rL rfl (.tmp 54) (.tmp 56) rfl rfl (HR1.o.next (bI _ _)) P.o rfl (bC w1 [.slice fa (G d.fs) fc] 111 0 _ rfl) rfl ?_;intro v2 w2 a m l;apply Hid.o);rw [p.o] at a;obtain ⟨a2,l2,rfl,-,-⟩:=a.len;have TC:(Value.slice a1 (G gs) l1).ownBlock≠some y:=λe=>iC _ (bG hz aan);have wK:=I a;have HK2:=I m;have HO2:=I l;have t:=I (m.cells (tP C.o _) TC);clear a m l c0 c1 c2 c3 c4 c5 z0 R T X Q U;obtain ⟨⟨c0,c1,c2,c3,c4,c5⟩,⟨z0,R,T,X,Q,U⟩,hz2⟩:=eC t.o;have hzz:(w.setCell ⟨y,0,none⟩ (.slice K (G f) D)).heap.size=w.heap.size:=aq;have J:Hid (∀ q,(Value.slice a2 (G b) l2).ownBlock=some q->w.heap.size<=q):=I λq hq=>WT;have HNY:Hid (∀ q,(Value.slice a2 (G b) l2).ownBlock=some q->¬ q=y):=I λq hq e'=>iC _ (bG hz (e'▸J.o q hq));have F:Hid (Ks (λq=>q=y) w2 (w2.setCell ⟨y,2,none⟩ (.slice (some ⟨g,o,none⟩) (G ie) r))):=I ((Ks.refl (λq=>q=y) w2).set y 2 _ rfl);have HRR:=I (wK.o.ks F.o HNY.o);have HM6:=I HH.o.M6;have HG2:Hid (G b<=1000000):=I (by rw [<- p.o,b6];have:=H.o;simp;omega);have HY3:=I (ju (x:=.slice (some ⟨g,o,none⟩) (G ie) r) t.o).2.2.1;clear hzz;apply I;go_wp2_with (go_at_call 153;refine mo (ER d.M HM6.o HRR.o HG2.o) ?_;rintro e w3 ⟨v3,rfl,rfl,v,O⟩);obtain ⟨V,Y,rfl,-,-⟩:=v.len;have HR3:=I v;have HO3:=I O;clear v O;apply I;go_wp2_with fail;go_ret;have hzz:(w.setCell ⟨y,0,none⟩ (.slice K (G f) D)).heap.size=w.heap.size:=aq;have hkY:Ks (λq=>q=y) w w2:=((((Ks.refl (λq=>q=y) w).set y 0 (.slice K (G f) D) rfl).t (Ks.of vA.o)).alloc _).new HK2.o λq hq=>hzz▸MB.o q hq;have j:Ks (λq=>q=y) w ((w2.setCell ⟨y,2,none⟩ (.slice (some ⟨g,o,none⟩) (G ie) r)).setCell ⟨y,1,none⟩ (.slice V (eI b d.M).length Y)):=(hkY.set y 2 _ rfl).set y 1 _ rfl;have hke:Ks (λq=>q=y) (w2.setCell ⟨y,2,none⟩ (.slice (some ⟨g,o,none⟩) (G ie) r)) ((w2.setCell ⟨y,2,none⟩ (.slice (some ⟨g,o,none⟩) (G ie) r)).setCell ⟨y,1,none⟩ (.slice V (eI b d.M).length Y)):=(Ks.refl (λq=>q=y) _).set y 1 _ rfl;have c:∀ q,(Value.slice V (eI b d.M).length Y).ownBlock=some q->w.heap.size<=q:=λq hq=>J.o q (HO3.o▸hq);have s:∀ q,S q->¬ q=y:=λq hq e'=>HH.o.nS q hq (Or.inl e');have N:g≠y:=λe'=>HH.o.ny.2 (by rw [e'];rfl);refine ⟨.slice V (eI b d.M).length Y,.slice (some ⟨g,o,none⟩) (G ie) r,rfl,HH.o.put (d':={ d with fs:=f,ag:=sP,bk:=eI (d.bk++[d.fs]) d.M }) (j.wide λq hq=>Or.inl hq) (ju HY3.o).2.1 ⟨HX.o.1.ks j λq hq=>s q (HX.o.2 q hq),HX.o.2⟩ ⟨HS.o.1.ks j λq hq=>s q (HS.o.2 q hq),HS.o.2⟩ (pE.mk (HR3.o.ks hke λq hq e'=>iC _ (bG hz (e'▸c q hq))) ?_) (pE.mk (Ta.o.ks j λq hq e'=>N GQ) (HBK.o.ks j s)) rfl ?_ ?_ ?_,j.wide λq hq=>Or.inl hq,?_⟩
    ·have:=((L.o.2.snoc HF.o.1 HF.o.2).ks j s).last d.M;rw [p.o] at this;exact this
    ·exact HLB.o
    ·intro q hq;refine ⟨λe'=>iC _ (bG hz (e'▸c q hq)),λhs=>iC _ (bG (HH.o.lt q hs) (c q hq)),λe'=>?_⟩;have h1:=c q hq;have h2:=HH.o.CF q (Or.inr (Or.inr (by cases e';rfl)));exact iC _ (bG h2 h1)
    ·intro q hq;exact ⟨λe'=>N GQ,λhs=>HH.o.nS q hs (Or.inr (Or.inr (by cases hq;rfl)))⟩
    ·rintro q (rfl|hq|hq)
     ·exact Or.inl (Or.inl rfl)
     ·exact Or.inr (c q hq)
     ·exact Or.inl (Or.inr (Or.inr (by cases hq;rfl)))
 ·have HE:Hid (l6 d=(9,d)):=I (by unfold l6;rw [aB hop]);exact Xg
variable {SX va':zV} {Z:List (List RF)}
def uQ (d:De):Nat × De:=if d.op=true then (9,d) else (0,Hl d)
def qK (d:De):Nat × De:=if d.op=true then (0,rN d) else (10,d)
def qL (d:De):Nat × De:=if d.op=true then (0,CG { d with sv:=[],op:=false } d.sv) else (10,d)
def O0 (h:dE w S y vb va d) (a:(G d.ag)<=900):zC prog 85 #[zJ y,.string ⟨([117,110,100,111]:By).toArray⟩] w (J3 S y vb va (lZ d) w):=by
 have HU:=I (TB h a);exact Xc
def O1 (h:dE w S y vb va d) (a:(G d.bk)<=900):zC prog 85 #[zJ y,.string ⟨([114,101,100,111]:By).toArray⟩] w (J3 S y vb va (l6 d) w):=by
 have HU:=I (TD h a);exact Xc
def J4 (h:dE w S y vb va d):zC prog 85 #[zJ y,.string ⟨([98,101,103,105,110]:By).toArray⟩] w (J3 S y vb va (uQ d) w):=by
 obtain ⟨l,k,hr,hf,hs⟩:=h.row;obtain ⟨⟨c0,c1,c2,c3,c4,c5⟩,⟨z0,o,m,j,f,g⟩,i⟩:=eC hr;have HH:=I h;have b:=I hr;have a:=I hf;obtain ⟨-,e,n,rfl,-⟩:=id hf.1;unfold uQ;cases hop:d.op
 ·rw [hop] at c4;have c:=I hop;clear h hr hf hs;go_in;go_wp2_with fail;go_ret;exact ⟨vb,va,rfl,(HH.o.J1 (d':=Hl d) (((Ks.refl (λq=>q=y) w).set y 4 _ rfl).set y 5 _ rfl) (ju (ju b.o).2.2.2.1).2.2.2.2 a.o a.o rfl rfl rfl).1,(HH.o.J1 (d':=Hl d) (((Ks.refl (λq=>q=y) w).set y 4 _ rfl).set y 5 _ rfl) (ju (ju b.o).2.2.2.1).2.2.2.2 a.o a.o rfl rfl rfl).2,λq hq=>Or.inl hq⟩
 ·exact MA
def Hm (h:dE w S y vb va d):zC prog 85 #[zJ y,.string ⟨([99,97,110,99,101,108]:By).toArray⟩] w (J3 S y vb va (qK d) w):=by
 obtain ⟨l,k,hr,hf,hs⟩:=h.row;obtain ⟨⟨c0,c1,c2,c3,c4,c5⟩,⟨z0,n,m,j,f,g⟩,i⟩:=eC hr;have HH:=I h;have c:=I (uP h);unfold qK;cases hop:d.op
 ·exact MA
 ·rw [hop] at c4;clear h hr hf hs;go_in;go_wp2_with (go_at_call 82;refine c.o.m ?_;rintro e w1 ⟨rfl,a⟩;have b:=I a;clear a);go_ret;exact ⟨vb,va,rfl,b.o.1,b.o.2,λq hq=>Or.inl hq⟩
def Hn (h:dE w S y vb va d) (f:(G d.bk)<=900):zC prog 85 #[zJ y,.string ⟨([99,111,109,109,105,116]:By).toArray⟩] w (J3 S y vb va (qL d) w):=by
 obtain ⟨z,x,hr,hf,hs⟩:=h.row;obtain ⟨⟨c0,c1,c2,c3,c4,c5⟩,⟨z0,s,r,p,t,u⟩,v⟩:=eC hr;have HH:=I h;have n:=I hr;have A:=I hs;have o:=I hf;obtain ⟨-,m,B,rfl,-⟩:=id hs.1;unfold qL;cases hop:d.op
 ·exact MA
 ·rw [hop] at c4;have i:Ks (λq=>q=y) w ((w.setCell ⟨y,5,none⟩ (zN)).setCell ⟨y,4,none⟩ (.bool false)):=((Ks.refl (λq=>q=y) w).set y 5 _ rfl).set y 4 _ rfl;have c:=h.J1 (d':={ d with sv:=[],op:=false }) i (ju (ju hr).2.2.2.2).2.2.2.1 hf ⟨jS,Bf⟩ rfl rfl rfl;have j:=I c.2;have l:=I (ES c.1 (hs.1.ks i λq hq e=>h.nS q (hs.2 q hq) (Or.inl e)) hs.2 f);clear h hr hf hs c i;go_in;go_wp2_with (go_at_call 118;refine l.o.m ?_;rintro e w1 ⟨SX,rfl,a⟩;have b:=I a;clear a);go_ret;refine ⟨SX,_,rfl,b.o.1,j.o.t b.o.2.1,?_⟩;rintro q (rfl|hq|hq)
  ·exact Or.inl (Or.inl rfl)
  ·rcases b.o.2.2 with e|⟨g,e,k⟩
   ·exact Or.inl (Or.inr (Or.inl (e▸hq)))
   ·rw [e] at hq;rw [<- dp hq];exact Or.inr (bf j.o.size k)
  ·cases hq
def vR (x:By × Int × Nat × Bool):List By:=x.1::(List.replicate x.2.2.1 cE++if x.2.2.2=true then [[61],aH 82 0] else [])
def yV (L:List By) (w:zW) (r:Ending) (w':zW):Prop:=∃ g c,r=.returned (zS g (G L) c)/\ll w' (zS g (G L) c) L/\zB w w'
def jb (w:zW) (L:List By) (a:L≠[]):ll (w.alloc (.cells (strs L).toArray 9)) (zS w.heap.size (G L) (G L)) L:=by
 refine Or.inr ⟨a,_,_,rfl,aG _,λj hj=>?_⟩;exact bC w (strs L) 9 j _ agF
def O5:zC prog 52 #[.string ⟨([115,101,116]:By).toArray⟩] w (yV [[115,101,116],cE,[61],aH 82 0] w):=by
 have a:=I (jb w [[115,101,116],cE,[61],aH 82 0] aq);go_in;go_wp2_with fail;go_ret;exact ⟨w.heap.size,4,rfl,a.o,bI _ _⟩
def Ee:zC prog 52 #[.string ⟨([100,101,108,101,116,101]:By).toArray⟩] w (yV [[100,101,108,101,116,101],cE] w):=by
 have HR:=I (jb w [[100,101,108,101,116,101],cE] aq);exact MV
def Ef:zC prog 52 #[.string ⟨([114,101,110,97,109,101]:By).toArray⟩] w (yV [[114,101,110,97,109,101],cE,cE] w):=by
 have a:=I (jb w [[114,101,110,97,109,101],cE,cE] aq);go_in;go_wp2_with fail;go_ret;exact ⟨w.heap.size,3,rfl,a.o,bI _ _⟩
def Hq:zC prog 52 #[.string ⟨([98,101,103,105,110]:By).toArray⟩] w (yV [[98,101,103,105,110]] w):=by
 have HR:=I (jb w [[98,101,103,105,110]] aq);exact wI
def Eg:zC prog 52 #[.string ⟨([99,111,109,109,105,116]:By).toArray⟩] w (yV [[99,111,109,109,105,116]] w):=by
 have HR:=I (jb w [[99,111,109,109,105,116]] aq);exact wI
def Eh:zC prog 52 #[.string ⟨([99,97,110,99,101,108]:By).toArray⟩] w (yV [[99,97,110,99,101,108]] w):=by
 have HR:=I (jb w [[99,97,110,99,101,108]] aq);exact wI
def J8:zC prog 52 #[.string ⟨([117,110,100,111]:By).toArray⟩] w (yV [[117,110,100,111]] w):=by
 have HR:=I (jb w [[117,110,100,111]] aq);exact wI
def J9:zC prog 52 #[.string ⟨([114,101,100,111]:By).toArray⟩] w (yV [[114,101,100,111]] w):=by
 have HR:=I (jb w [[114,101,100,111]] aq);exact wI
def Hr:zC prog 52 #[.string ⟨([118,97,108,117,101]:By).toArray⟩] w (yV [[118,97,108,117,101],cE] w):=by
 have HR:=I (jb w [[118,97,108,117,101],cE] aq);exact MV
def Ka:zC prog 52 #[.string ⟨([114,117,108,101]:By).toArray⟩] w (yV [[114,117,108,101],cE] w):=by
 have HR:=I (jb w [[114,117,108,101],cE] aq);exact MV
def Kb:zC prog 52 #[.string ⟨([108,105,115,116]:By).toArray⟩] w (yV [[108,105,115,116]] w):=by
 have HR:=I (jb w [[108,105,115,116]] aq);exact wI
def Hs:zC prog 52 #[.string ⟨([111,114,100,101,114]:By).toArray⟩] w (yV [[111,114,100,101,114]] w):=by
 have HR:=I (jb w [[111,114,100,101,114]] aq);exact wI
def TK (t:By) (h:∀ x∈aQ,t≠x.1):zC prog 52 #[zG t] w λr w'=>r=.returned (zN)/\w'=w:=by
 have d:(t == [115,101,116])=false:=bo.2 (h (aQ[0]) (bt _));have e1:(t == [100,101,108,101,116,101])=false:=bo.2 (h (aQ[1]) (bt _));have c:(t == [114,101,110,97,109,101])=false:=bo.2 (h (aQ[2]) (bt _));have k:(t == [98,101,103,105,110])=false:=bo.2 (h (aQ[3]) (bt _));have l:(t == [99,111,109,109,105,116])=false:=bo.2 (h (aQ[4]) (bt _));have f:(t == [99,97,110,99,101,108])=false:=bo.2 (h (aQ[5]) (bt _));have g:(t == [117,110,100,111])=false:=bo.2 (h (aQ[6]) (bt _));have e:(t == [114,101,100,111])=false:=bo.2 (h (aQ[7]) (bt _));have i:(t == [118,97,108,117,101])=false:=bo.2 (h (aQ[8]) (bt _));have j:(t == [114,117,108,101])=false:=bo.2 (h (aQ[9]) (bt _));have b:(t == [108,105,115,116])=false:=bo.2 (h (aQ[10]) (bt _));have a:(t == [111,114,100,101,114])=false:=bo.2 (h (aQ[11]) (bt _));clear h;go_in;exact Ni
def TM (x:By × Int × Nat × Bool) (a:x∈aQ):zC prog 52 #[.string ⟨x.1.toArray⟩] w (yV (vR x) w):=by
 simp only [aQ,bQ,jA,iK] at a;rcases a with rfl|rfl|rfl|rfl|rfl|rfl|rfl|rfl|rfl|rfl|rfl|rfl
 ·exact O5
 ·exact Ee
 ·exact Ef
 ·exact Hq
 ·exact Eg
 ·exact Eh
 ·exact J8
 ·exact J9
 ·exact Hr
 ·exact Ka
 ·exact Kb
 ·exact Hs
end
section
variable {len:Nat} {ts:List (By × Nat)} {vb:Int} {n:Nat} {rl:Bool} {r:tR} {i q:Nat} {K:List By}
def ET {t x:By} (h:ej t=x) (a:x≠[]):t=x:=by
 unfold ej at h;split at h
 ·exact absurd h.symm a
 ·rename_i b;unfold eh at h;rw [aA b] at h;split at h
  ·exact absurd h.symm a
  ·exact h
def wT:cF len (q+1) (cE::K) (ts.drop i)=if bm (aw ts i)=true then cF len q K (ts.drop (i+1)) else some (3,eF len ts i):=by
 rw [cP len q _ K _ (aw ts i) (eF len ts i) (l7 len ts i),aA ai,show dT cE (aw ts i)=none from jl 78 _ _ ai];simp only [jq,List.tail_drop]
def CH (h:fV ts) (a:i<G ts):∃ k:Nat,ij (aw ts i) k/\fU (aw ts i)=(k:Int):=by
 have d:(ts[i].1,ts[i].2)∈ts:=bt a;obtain ⟨⟨b,c,r,e,_⟩,_⟩:=h _ _ d;rw [eY ts i a];exact Kc _ b pL
def mS {t:By} (h:bm t=true):ij t 2:=by
 refine Or.inr (Or.inl ⟨?_,h,rfl⟩);unfold bm at h;rw [qA] at h;cases t with
 | nil=>rfl
 | cons c r=>
  have a:fF c=true:=h.1;exact Bg a
def kN2 (h:fV ts) (i:Nat):kN ts i=2↔bm (aw ts i)=true:=by
 unfold kN;by_cases a:i<G ts
 ·rw [aB a];obtain ⟨k,b,d⟩:=CH h a;rw [d];refine ⟨λe=>?_,λe=>?_⟩
  ·have c:k=2:=ae;subst c;rcases b with ⟨_,h⟩|⟨_,h,_⟩|⟨_,h⟩|h
   ·omega
   ·exact h
   ·omega
   ·exfalso;revert h;simp [eb]
  ·have:=oy _ _ _ b (mS e);omega
 ·rw [aA a,kV ts i ae];decide
def agU (h:fV ts) (i:Nat):kN ts i=18↔aw ts i=[61]:=by
 unfold kN;by_cases a:i<G ts
 ·rw [aB a];obtain ⟨k,c,b⟩:=CH h a;rw [b,<- cQ [61] 18 ai _ k c];omega
 ·rw [aA a,kV ts i ae];decide
def kN0 (h:fV ts) (i:Nat):kN ts i=0↔(G ts)<=i:=by
 unfold kN;by_cases a:i<G ts
 ·rw [aB a];obtain ⟨k,b,g⟩:=CH h a;rw [g];refine ⟨λe=>?_,λe=>ae⟩;exfalso;have f:k=0:=ae;subst f;have d:(ts[i].1,ts[i].2)∈ts:=bt a;obtain ⟨⟨_,c,r,e,_⟩,_⟩:=h _ _ d;rw [eY ts i a,e] at b;rcases b with ⟨_,h⟩|⟨_,_,h⟩|⟨h,_⟩|h
  ·omega
  ·omega
  ·cases h
  ·revert h;simp [eb]
 ·rw [aA a];simp;omega
def CI (h:fV ts):∀ (n s:Nat),(∀ i,i<n->kN ts (s+i)=2)->cF len (q+n) (List.replicate n cE++K) (ts.drop s)=cF len q K (ts.drop (s+n))
 | 0,s,_=>rfl
 | n+1,s,hn=>by
  rw [BC,gT,show q+(n+1)=q+n+1 from ae,wT,aB ((kN2 h s).1 (hn 0 ae))];rw [CI h n (s+1) λi a=>ZC];rw [show s+1+n=s+(n+1) from ae]
def Ae (h:fV ts):∀ (n s j:Nat),j<n->(∀ i,i<j->kN ts (s+i)=2)->kN ts (s+j)≠2->cF len (q+n) (List.replicate n cE++K) (ts.drop s)=some (3,eF len ts (s+j))
 | 0,s,j,b,_,_=>ae
 | n+1,s,0,_,_,a=>by
  rw [BC,gT,show q+(n+1)=q+n+1 from ae,wT,aA (λe=>a ((kN2 h s).2 e))];rfl
 | n+1,s,j+1,b,hn,a=>by
  rw [BC,gT,show q+(n+1)=q+n+1 from ae,wT,aB ((kN2 h s).1 (hn 0 ae))];rw [Ae h n (s+1) j ae (λi c=>ZC) (by rwa [show s+1+j=s+(j+1) from ae])];rw [show s+1+j=s+(j+1) from ae]
def alz (ts:List (By × Nat)) (rl:Bool) (res:Int × Nat):tR->Prop
 | .err _ er p=>(er=res.1/\p=res.2/\er≠0)\/(er=7/\p=0/\res=(0,0)/\rl=true/\4<=G ts/\100<(bV (ts.drop 3) (ts.drop 3).length).length)
 | .ok _ _ _=>res=(0,0)/\(rl=true->4<=G ts/\¬ 100<(bV (ts.drop 3) (ts.drop 3).length).length)
def TN (h:fV ts) (x:By × Int × Nat × Bool) (hx:x∈aQ) (B:aw ts 0=x.1) (m:mZ len ts x.2.1 x.2.2.1 x.2.2.2 r):∃ res z,z<=1000010/\cF len z (vR x) ts=some res/\alz ts x.2.2.2 res r:=by
 obtain ⟨l,vb,n,rl⟩:=x;simp only at B m ⊢;have o:Tk l:=by
  have d:∀ x∈aQ,∃ c r,x.1=c::r/\c≠63/\c::r≠cE:=W9;exact d _ hx
 have y:rl=true->n=1:=by
  have d:∀ x∈aQ,x.2.2.2=true->x.2.2.1=1:=ai;exact d _ hx
 have E:n<=2:=(iT _ hx).2;have start:∀ q K,cF len (q+1) (l::K) ts=cF len q K (ts.drop 1):=λq K=>by
  have:=mU len ts l 0 q K o B;simpa using this
 unfold vR;simp only;rcases m with ⟨j,D,v,u,rfl⟩|⟨v,m⟩
 ·refine ⟨(3,eF len ts (1+j)),0+n+1,ae,?_,Or.inl ⟨rfl,rfl,ai⟩⟩;rw [start,Ae h n 1 j D v u]
 ·have mid:∀ q K,cF len (q+n+1) (l::(List.replicate n cE++K)) ts=cF len q K (ts.drop (1+n)):=λq K=>by
   rw [start,CI h n 1 v]
  rcases m with ⟨rfl,f,rfl⟩|⟨rfl,f,rfl⟩|⟨rfl,f,rfl⟩|⟨rfl,f,er,p,s,C,i,a⟩
  ·have k:=CJ f;refine ⟨(3,eF len ts (1+n)),1+n+1,ae,?_,Or.inl ⟨rfl,rfl,ai⟩⟩;rw [aA aq,mid];rcases l7 len ts (1+n) with ⟨e,_⟩|⟨r,e⟩
   ·exfalso;have:=eL List.length e;rw [mG] at this;simp at this;omega
   ·rw [e];rfl
  ·have g:=(kN0 h _).1 f;refine ⟨(0,0),1+n+1,ae,?_,rfl,λe=>iM⟩;rw [aA aq,mid,nY g];rfl
  ·refine ⟨(3,eF len ts (1+n)),1+n+1,ae,?_,Or.inl ⟨rfl,rfl,ai⟩⟩;rw [aB rfl,mid];exact xO len ts [61] (1+n) 0 _ ⟨61,[],rfl,ai,ai⟩ λe=>f ((agU h _).2 e)
  ·have w:=(agU h _).1 f;have b:cF len (s+1+n+1) (l::(List.replicate n cE++[[61],aH 82 0])) ts=some (er,p):=by
    rw [mid,mU len ts [61] (1+n) s _ ⟨61,[],rfl,ai,ai⟩ w,show 1+n+1=2+n from ae];exact i
   have e1:=y rfl;subst e1;refine ⟨(er,p),s+1+1+1,ae,?_,?_⟩
   ·rw [aB rfl];exact b
   ·rcases a with ⟨a,rfl⟩|⟨rfl,rfl,a,rfl⟩|⟨rfl,rfl,t,a,F,A,rfl⟩
    ·exact Or.inl ⟨rfl,rfl,a⟩
    ·refine Or.inr ⟨rfl,rfl,rfl,rfl,?_,a⟩;rcases cC 3 (G ts) with k|g
     ·exact k
     ·rw [nY ae] at a;exact absurd a ai
    ·refine ⟨rfl,λ_=>⟨?_,?_⟩⟩
     ·have:=a.lt;rw [mG] at this;omega
     ·rw [F] at A;exact A
end
section
attribute [local go_sem] idx_eq app_eq
variable {w w' W:zW} {s:By} {r:tR}
def ik (a:Int):By:=match aQ.find? (λx=>x.2.1 == a) with|some x=>x.1|none=>[]
def lnE:tR->Int|.err _ er _=>er|.ok _ _ _=>0
def lnQ:tR->Nat|.err _ _ p=>p|.ok _ _ _=>0
def lnW:tR->By|.err vb _ _=>ik vb|.ok vb _ _=>ik vb
def Kd:∀ x∈aQ,ik x.2.1=x.1:=ai
def TP (s:By) (r:tR) (w:zW) (e:Ending) (w':zW):Prop:=
 ∃ vt,e=.returned (.tuple #[vt,zI (lnE r),zI (lnQ r:Int),.string ⟨(lnW r).toArray⟩])/\zB w w'/\(∀ b a t,r=.ok b a t->ea w' vt (aI s).1/\∀ q,vt.ownBlock=some q->w.heap.size<=q)
def aer (W:zW):(binOp .eql 24 (zN) (zN)).run prog W=.ok (.bool true) W:=aD
def O6 (a:120<G s):zC prog 36 #[zG s] w (TP s (.err 0 1 0) w):=by
 have b:(120:Int)<((G s):Int):=iD.2 a;go_in;go_wp2_with fail;refine aK (v:=.tuple #[zN,zI 1,zI 0,zG []]) zQ rfl ?_;exact ⟨_,rfl,aM _ _,λc d t e=>iM⟩
def TQ (i:(G s)<=120) (p:Nat) (b:(aI s).2=some p):zC prog 36 #[zG s] w (TP s (.err 0 2 p) w):=by
 have f:¬ (120:Int)<((G s):Int):=ae;have h:=I b;have g:Hid (G s<=1000):=I ae;have d:(0:Int)<=(p:Int):=mF p;clear b;go_in;go_wp2_with (go_at_call 51;refine (vS s _ p g.o h.o).m ?_;rintro e w1 ⟨rfl,a⟩;have c:=I a;clear a);refine aK (v:=.tuple #[zN,zI 2,zI p,zG []]) zQ rfl ?_;exact ⟨_,rfl,c.o,λk j t e=>iM⟩
def O7 (l:(G s)<=120) (c:aI s=([],none)):zC prog 36 #[zG s] w (TP s (.err 0 3 (G s)) w):=by
 have g:¬ (120:Int)<((G s):Int):=ae;have f:=I c;have h:Hid (G s<=1000):=I ae;clear c;go_in;go_wp2_with (go_at_call 51;refine mo (iU s _ [] h.o f.o) ?_;rintro e w1 ⟨v,rfl,a,b⟩);obtain ⟨j,i,rfl,-⟩:=pQ a;have d:=I b;clear a b;apply I;go_wp2_with fail;refine aK (v:=.tuple #[zN,zI 3,zI (G s),zG []]) zQ rfl ?_;exact ⟨_,rfl,d.o,λm k t e=>iM⟩
def O8 (z:(G s)<=120) {ts:List (By × Nat)} (ht:aI s=(ts,none)) (d:0<G ts) (h:∀ x∈aQ,aw ts 0≠x.1):zC prog 36 #[zG s] w (TP s (.err 0 3 (eF (G s) ts 0)) w):=by
 have m:¬ (120:Int)<((G s):Int):=ae;have l:=I ht;have k:Hid (G s<=1000):=I ae;have u:(0:Int)<((G ts):Int):=iD.2 d;have j:((G ts):Int)<=1000:=by
  have y:(G ts)<=(G s):=agB;omega
 have n:=I (λW=>TK (w:=W) (aw ts 0) h);have f:Hid (eF (G s) ts 0=ts[0].2):=I (by unfold eF;rw [cU d]);clear ht h;go_in;go_wp2_with (go_at_call 51;refine mo (iU s _ ts k.o l.o) ?_;rintro e w1 ⟨v,rfl,a,c⟩);obtain ⟨C,q,rfl,b⟩:=pQ a;obtain ⟨g,rfl,c0,c1⟩:=b 0 d;have o:=I c;rw [<- eY ts 0 d] at c0;rw [<- f.o] at c1;simp only [jC,cS] at c0 c1;clear a c b f;generalize aw ts 0=t at *;generalize eF (G s) ts 0=p at *;have r:(((G ts):Int) == 0)=false:=bo.2 (λe=>ae);apply I;go_wp2_with (go_at_call 52;refine mo (n.o _) ?_;rintro e w2 ⟨rfl,rfl⟩);have i:=aer;apply I;go_wp2_with fail
 go_quiet (fail)
 go_wp2_with fail;refine aK (v:=.tuple #[zN,zI 3,zI p,zG []]) zQ rfl ?_;exact ⟨_,rfl,lG o.o _,λA B t e=>iM⟩
variable {ts:List (By × Nat)}
def aes (W:zW) (a:zD) (n c:Nat):(binOp .eql 24 (.slice (some a) n c) (zN)).run prog W=.ok (.bool false) W:=Lib.run_eql_slice_some_nil W a n c underlying24
def TR {len:Nat} {a:Int} {n:Nat} {c:Bool} (h:mZ len ts a n c r):(∃ er p,r=.err a er p)\/(∃ b t,r=.ok a b t):=by
 rcases h with ⟨_,_,_,_,rfl⟩|⟨_,⟨_,_,rfl⟩|⟨_,_,rfl⟩|⟨_,_,rfl⟩|⟨_,_,_,_,_,_,_,⟨_,rfl⟩|⟨_,_,_,rfl⟩|⟨_,_,_,_,_,_,rfl⟩⟩⟩
 ·exact Or.inl ⟨_,_,rfl⟩
 ·exact Or.inl ⟨_,_,rfl⟩
 ·exact Or.inr ⟨_,_,rfl⟩
 ·exact Or.inl ⟨_,_,rfl⟩
 ·exact Or.inl ⟨_,_,rfl⟩
 ·exact Or.inl ⟨_,_,rfl⟩
 ·exact Or.inr ⟨_,_,rfl⟩
def EU:∀ x∈aQ,Ht (vR x)/\(vR x).length<=10:=by
 have b:∀ x∈aQ,∃ c r,x.1=c::r/\c≠63/\c::r≠cE:=W9;intro x hx;obtain ⟨c,r,e,d,f⟩:=b x hx;refine ⟨λy a=>?_,?_⟩
 ·unfold vR at a;rcases bQ.1 a with rfl|a
  ·exact Or.inl (Or.inl ⟨c,r,e,d,f⟩)
  ·rcases cG.1 a with a|a
   ·exact Or.inr (List.eq_of_mem_replicate a)
   ·split at a
    ·simp only [bQ,jA,iK] at a;rcases a with rfl|rfl
     ·exact Or.inl (Or.inl ⟨61,[],rfl,ai,ai⟩)
     ·exact Or.inl (Or.inr (Or.inr (Or.inr ⟨82,0,ai,ai,rfl⟩)))
    ·simp at a
 ·have:=(iT x hx).2;unfold vR;rw [gS,b6,List.length_replicate];split<;>simp<;>omega
def TS {x:By × Int × Nat × Bool} {vt:zV} (c:x∈aQ) (b:(∃ er p,r=.err x.2.1 er p)\/(∃ a t,r=.ok x.2.1 a t)):lnW r=x.1:=by
 rcases b with ⟨er,p,rfl⟩|⟨a,t,rfl⟩<;>exact Kd x c
def O9 (hl:(G s)<=120) (ht:aI s=(ts,none)) (x:By × Int × Nat × Bool) (H:x∈aQ) (h0:aw ts 0=x.1) (hp:mZ (G s) ts x.2.1 x.2.2.1 x.2.2.2 r):zC prog 36 #[zG s] w (TP s r w):=by
 have S:fV ts:=Zy;obtain ⟨res,n1,wR,z,A⟩:=TN S x H h0 hp;have U:=TS (vt:=.bool true) H (TR hp);have C:∀ x∈aQ,(x.2.2.2=true->x.1=[115,101,116])/\(x.2.2.2=false->(x.1 == [115,101,116])=false):=ai;have hs:=C x H;have m:0<(G ts):=bP h0 (by have:=(iT x H).1;exact this);have hl1:¬ (120:Int)<((G s):Int):=ae;have HT:=I ht;have HL:Hid (G s<=1000):=I ae;have hti:(0:Int)<((G ts):Int):=iD.2 m;have TT:(G ts)<=1000:=by
  have h':(G ts)<=(G s):=agB;omega
 have arz:((G ts):Int)<=1000:=a6.2 TT;have HG:Hid (∀ t p,(t,p)∈ts.drop 3->t≠[]/\(G t)<=19):=I λt p hm=>by
  obtain ⟨⟨K,c,r,e,_⟩,_⟩:=S t p (lD hm);exact RA K pL
 have M:=I (λW=>TM (w:=W) x H);have Y:=I (λW v0 (hv:ll W v0 (vR x))=>CK s (vR x) v0 W HL.o hv (EU x H).2 (EU x H).1 n1 wR res (by rw [ht]) (by rw [ht];exact z));have HLW:=I U;have d:=I A;have hne:(((G ts):Int) == 0)=false:=bo.2 (λe=>ae);have HT1:Hid ((aI s).1=ts):=I (by rw [ht]);obtain ⟨x1,xv,xn,xl⟩:=x;simp only at *;obtain ⟨L,HSL⟩:∃ L,Hid (vR (x1,xv,xn,xl)=L):=⟨_,I rfl⟩;rw [HSL.o] at M Y;obtain ⟨r1,r2⟩:=res;clear ht z A hp U C;go_in;go_wp2_with (go_at_call 51;refine mo (iU s _ ts HL.o HT.o) ?_;rintro e w1 ⟨v,rfl,l,T⟩);obtain ⟨ao,b,rfl,R⟩:=pQ l;obtain ⟨g,rfl,c0,c1⟩:=R 0 m;have HB:=I T;have V:=I l;rw [<- eY ts 0 m,h0] at c0;simp only [jC,cS] at c0 c1;clear l T R c1 h0;apply I;go_wp2_with (go_at_call 52;refine mo (M.o _) ?_;rintro e w2 ⟨g2,cp2,rfl,B,N⟩);have wK:=I B;have h:=I N;have hnil:=λW=>aes W ⟨g2,0,none⟩ (G L) cp2;clear B N;apply I;go_wp2_with (go_at_call 53;refine mo (Y.o _ _ wK.o) ?_;rintro e w3 ⟨v3,rfl,ho3,y⟩);have P:=I y;have X:Hid (G ts<=b):=I (by
  obtain ⟨ao',cap',o',e',O,_⟩:=qM V.o;cases e';exact O)
 have f:Hid (zB w w3):=I ((HB.o.t (h.o.m HB.o.size)).t (y.m (bf HB.o.size h.o.size)));have F:Hid (ea w3 (zS g (G ts) b) (aI s).1/\∀ q,(Value.slice (some ⟨g,0,none⟩) (G ts) b).ownBlock=some q->w.heap.size<=q):=I (by
  rw [HT1.o];exact ⟨qM (aZ (aZ V.o h.o) y),λq hq=>(fJ V.o q hq).1⟩)
 clear ho3 y;rcases hr:r with ⟨Q,er,p⟩|⟨Q,ns,tt⟩
 ·subst hr;rcases d.o with ⟨K,Z,J⟩|⟨K,Z,J,i,h4,a⟩
  ·simp only at K Z;subst K;subst Z;have hrb:(er == 0)=false:=bo.2 J;clear d J;apply I;go_wp2_with fail;refine aK (v:=.tuple #[zS g (G ts) b,zI er,zI p,zG x1]) zQ rfl ?_;exact ⟨_,G4,f.o,λQ ns t e=>iM⟩
  ·subst K;subst Z;cases J;clear d;have u:=hs.1 i;subst u;have hc3:¬ b=3:=λe=>by have:=X.o;omega
   have hl4:(4:Int)<=((G ts):Int):=a6.2 h4;have HD:=I ((qM (aZ (aZ V.o h.o) P.o)).drop (k:=3) ae ae);have E:Hid ((ts.drop 3).length<=1000):=I JG;obtain ⟨tx,D⟩:∃ tx,Hid (bV (ts.drop 3) (ts.drop 3).length=tx):=⟨_,I rfl⟩;have j:=I (Ho (ts.drop 3) _ _ HD.o E.o HG.o);rw [D.o] at j a;have hlb:(100:Int)<((G tx):Int):=iD.2 a;clear a;apply I;go_wp2_with (go_at_call 54;refine mo j.o ?_;rintro e w4 ⟨rfl,n⟩);have o:=I n;clear n;apply I;go_wp2_with fail;refine aK (v:=.tuple #[zS g (G ts) b,zI 7,zI 0,.string ⟨([115,101,116]:By).toArray⟩]) zQ rfl ?_;exact ⟨_,G4,f.o.t (o.o.m (bf f.o.size (aG _))),λQ ns t e=>iM⟩
 ·subst hr;obtain ⟨J,hrl⟩:=d.o;cases J;clear d;cases i:xl
  ·have u:=hs.2 i;apply I;go_wp2_with fail;refine aK (v:=.tuple #[zS g (G ts) b,zI 0,zI 0,zG x1]) zQ rfl ?_;exact ⟨_,G4,f.o,λQ ns t e=>F.o⟩
  ·obtain ⟨h4,a⟩:=hrl i;have u:=hs.1 i;subst u;have hc3:¬ b=3:=λe=>by have:=X.o;omega
   have hl4:(4:Int)<=((G ts):Int):=a6.2 h4;have HD:=I ((qM (aZ (aZ V.o h.o) P.o)).drop (k:=3) ae ae);have E:Hid ((ts.drop 3).length<=1000):=I JG;obtain ⟨tx,D⟩:∃ tx,Hid (bV (ts.drop 3) (ts.drop 3).length=tx):=⟨_,I rfl⟩;have j:=I (Ho (ts.drop 3) _ _ HD.o E.o HG.o);rw [D.o] at j a;have hlb:¬ (100:Int)<((G tx):Int):=λe=>a (iD.1 e);clear a;apply I;go_wp2_with (go_at_call 54;refine mo j.o ?_;rintro e w4 ⟨rfl,n⟩);have o:=I n;clear n;apply I;go_wp2_with fail;refine aK (v:=.tuple #[zS g (G ts) b,zI 0,zI 0,.string ⟨([115,101,116]:By).toArray⟩]) zQ rfl ?_;exact ⟨_,G4,f.o.t (o.o.m (bf f.o.size (aG _))),λQ ns t e=>⟨F.o.1.next o.o,F.o.2⟩⟩
end
section
variable {w w' W:zW} {s:By} {r:tR}
def yE (h:ew s r):zC prog 36 #[zG s] w (TP s r w):=by
 rcases h with ⟨c,rfl⟩|⟨c,p,d,rfl⟩|⟨c,ts,d,n⟩
 ·exact O6 c
 ·exact TQ c p d
 ·have i:∀ x∈aQ,ej x.1=x.1:=ai;rcases n with ⟨k,j,b,m⟩|⟨b,rfl⟩
  ·have g:aQ[k]∈aQ:=bt j;have f:=(iT _ g).1;have a:0<(G ts):=by
    rcases cC 0 (G ts) with h|h
    ·exact h
    ·exfalso;unfold nT at b;rw [aA ae] at b;exact f b
   have l:aw ts 0=aQ[k].1:=by
    unfold nT at b;rw [aB a] at b;exact ET b.symm f
   exact O9 c d aQ[k] g l m
  ·rcases cC 0 (G ts) with a|a
   ·refine O8 c d a λx g e=>?_;obtain ⟨k,j,rfl⟩:=e9 g;refine b k j ?_;unfold nT;rw [aB a,e,i _ g]
   ·have e:ts=[]:=oD ae;subst e;exact O7 c d
end
section
attribute [local go_sem] idx_eq app_eq
variable {w w' W w1:zW} {U l:zV} {V:List Bk} {C:Nat->Prop} {Z B n m:Nat} {xs news:List zV} {v0 v1:zV} {bn:Option zD} {cn:Nat}
def aeI {k:Nat} (h:0<k) (g:Nat) (a:k<=g):k / 10<=k - 1/\k / 10<g/\k / 10<=k / 10:=ae
def gO (w:zW) (C:Nat->Prop) (v:zV) (k:Nat) (u:zV):Prop:=∃ a c,v=.slice a k c/\(k=0\/∃ g,a=some ⟨g,0,none⟩/\C g/\g<w.heap.size/\∀ i,i<k->w.cell? ⟨g,i,none⟩=some u)
def gO.ks {P:Nat->Prop} {v u:zV} {k:Nat} (h:gO w C v k u) (d:Ks P w w') (e:∀ q,C q->q<w.heap.size->¬ P q):gO w' C v k u:=by
 obtain ⟨f,c,rfl,h⟩:=h;refine ⟨f,c,rfl,h.imp id ?_⟩;rintro ⟨g,rfl,b,a,j⟩;exact ⟨g,rfl,b,bG a d.size,λi l=>(aS (d.block g a (e g b a)) i).t (j i l)⟩
def gO.own {v u:zV} {k:Nat} (h:w.ownsRow B 9 1 v k xs) (d:xs=List.replicate k u) (c:∀ q,v.ownBlock=some q->C q):gO w C v k u:=by
 rcases h.2 with ⟨rfl,b⟩|⟨g,a,e,rfl,_⟩
 ·exact ⟨none,0,by rw [b],Or.inl b⟩
 ·refine ⟨_,a,rfl,Or.inr ⟨g,rfl,c g rfl,(fJ h g rfl).2,λi f=>?_⟩⟩;rw [BA h i ae,d,List.getElem?_replicate,aB f]
def pU.full {v' u:zV} (h:pU w B l n m xs news v' w') (d:xs=List.replicate n u) (c:news=List.replicate m u) (a:∀ q,l.ownBlock=some q\/w.heap.size<=q->C q):gO w' C v' (n+m) u:=by
 refine gO.own h.new (by rw [d,c,List.replicate_append_replicate]) λq b=>?_;rcases h.at_ with e|⟨e,_⟩
 ·exact a q (Or.inl (e▸b))
 ·exact a q (Or.inr (e q b))
def pU.keep {v v' u:zV} {k:Nat} (h:pU w B l n m xs news v' w') (z:xs=List.replicate n u) (r:news=List.replicate m u) (j:gO w C v k u) (D:k<=n+m):gO w' C v k u:=by
 obtain ⟨t,c,rfl,j⟩:=j;refine ⟨t,c,rfl,j.imp id ?_⟩;rintro ⟨g,rfl,s,d,o⟩;refine ⟨g,rfl,s,bG d h.grown.size,λi q=>?_⟩;by_cases p:l.ownBlock=some g
 ·rcases h.at_ with e|⟨_,e⟩
  ·have b:v'.ownBlock=some g:=e.t p;rcases h.new.2 with ⟨f,_⟩|⟨A,x,y,f,_⟩
   ·rw [f] at b;cases b
   ·have a:=h.new;rw [f] at b a;cases b;rw [BA a i ae,z,r,List.replicate_append_replicate,List.getElem?_replicate,aB ae]
  ·exact (aS (e.block g d aq) i).t (o i q)
 ·exact (aS (h.grown.block g d (λe=>p e.symm)) i).t (o i q)
def pU.ks {v':zV} (h:pU w B l n m xs news v' w'):Ks (λq=>l.ownBlock=some q) w w':=⟨h.grown.os,h.grown.tape,h.grown.output,h.grown.size,λk a b=>h.grown.block k a λe=>b e.symm⟩
def pU.slice {v':zV} (h:pU w B l n m xs news v' w'):∃ a c,v'=.slice a (n+m) c:=by
 rcases h.new.2 with ⟨b,e⟩|⟨g,d,f,b,_⟩
 ·exact ⟨none,0,by rw [e];exact b⟩
 ·exact ⟨_,d,b⟩
def T4 {u:zV} {j:Nat} {a:List zV} (h:0<G a):(List.replicate j u++a).set j u=List.replicate (j+1) u++a.drop 1:=by
 rw [List.set_append,aA aq,List.length_replicate,nK];cases a with
 | nil=>cases h
 | cons y r=>simp [List.replicate_succ']
def pV (w:zW) (b:Nat) (a:b=w.heap.size) (cs:List zV) (T:TypeId) (j:Nat) (u:zV) (h:cs[j]?=some u):(w.alloc (.cells cs.toArray T)).cell? ((⟨b,0,none⟩:zD).add j)=some u:=a▸bC w cs T j u h
structure nR (w:zW) (B:Nat) (l:zV) (n:Nat) (u:zV) (X:Nat) (a b c:zV) (wi:zW):Prop where
 ks:Ks (λq=>l.ownBlock=some q) w wi
 own:wi.ownsRow B 9 1 l n (List.replicate n u)
 row:wi.heap[X]?=some (.cells #[l,a,b,c,u] 126 (0,0))
 X0:w.heap.size<=X
 nX:∀ q,l.ownBlock=some q->q<w.heap.size
def nR.lt {u a b c:zV} {X:Nat} (h:nR w B l n u X a b c w1):X<w1.heap.size:=(cz.1 h.row).1
def nR.next {u a b c:zV} {X:Nat} (h:nR w B l n u X a b c w1) (d:zB w1 w'):nR w B l n u X a b c w':=⟨h.ks.t (Ks.of d),aZ h.own d,(d.block X h.lt).t h.row,h.X0,h.nX⟩
def nR.app {u a b c v':zV} {X:Nat} (h:nR w B l n u X a b c w1) (d:pU w1 B l n m (List.replicate n u) news v' w'):nR w B l n u X a b c w':=
 ⟨h.ks.t d.ks,d.old,(d.grown.block X h.lt λe=>by have:=h.nX X e.symm;have:=h.X0;omega).t h.row,h.X0,h.nX⟩
def nR.neX {u a b c:zV} {X:Nat} (h:nR w B l n u X a b c w1):l.ownBlock≠some X:=λe=>by have:=h.nX X e;have:=h.X0;omega
def y7 {v x:zV} {X k:Nat} (h:w.ownsRow B 9 1 v n xs) (f:v.ownBlock≠some X):(w.setCell ⟨X,k,none⟩ x).ownsRow B 9 1 v n xs:=by
 rcases h.2 with ⟨rfl,h0⟩|⟨g,a,b,rfl,c,d,i⟩
 ·exact MC
 ·exact ⟨h.1,Or.inr ⟨g,a,b,rfl,c,(cY _ _ _ _ (λe=>f (by rw [show X=g from e.symm];rfl))).t d,i⟩⟩
def nR.abH {u a b c x:zV} {X:Nat} (h:nR w B l n u X a b c w1):nR w B l n u X x b c (w1.setCell ⟨X,1,none⟩ x):=
 ⟨⟨h.ks.os,h.ks.tape,h.ks.output,GK,λk d f=>(cY _ _ _ _ (λe=>Zs)).t (h.ks.block k d f)⟩,y7 h.own h.neX,(aj h.row 1 x).t rfl,h.X0,h.nX⟩
def nR.abI {u a b c x:zV} {X:Nat} (h:nR w B l n u X a b c w1):nR w B l n u X a x c (w1.setCell ⟨X,2,none⟩ x):=
 ⟨⟨h.ks.os,h.ks.tape,h.ks.output,GK,λk d f=>(cY _ _ _ _ (λe=>Zs)).t (h.ks.block k d f)⟩,y7 h.own h.neX,(aj h.row 2 x).t rfl,h.X0,h.nX⟩
def nR.alF {u a b c x:zV} {X:Nat} (h:nR w B l n u X a b c w1):nR w B l n u X a b x (w1.setCell ⟨X,3,none⟩ x):=
 ⟨⟨h.ks.os,h.ks.tape,h.ks.output,GK,λk d f=>(cY _ _ _ _ (λe=>Zs)).t (h.ks.block k d f)⟩,y7 h.own h.neX,(aj h.row 3 x).t rfl,h.X0,h.nX⟩
def H8 {w:zW} {q:Nat} {v0 v1 v2 v3 v4:zV} {t:TypeId} (h:w.heap[q]?=some (.cells #[v0,v1,v2,v3,v4] t (0,0))) :
  w.cell? ⟨q,0,none⟩=some v0/\w.cell? ⟨q,1,none⟩=some v1/\w.cell? ⟨q,2,none⟩=some v2/\w.cell? ⟨q,3,none⟩=some v3/\w.cell? ⟨q,4,none⟩=some v4/\w.frozen? ⟨q,1,none⟩=false/\w.frozen? ⟨q,2,none⟩=false/\w.frozen? ⟨q,3,none⟩=false:=
 ⟨(bq w q 0 _ _ _ h).t rfl,(bq w q 1 _ _ _ h).t rfl,(bq w q 2 _ _ _ h).t rfl,(bq w q 3 _ _ _ h).t rfl,(bq w q 4 _ _ _ h).t rfl,bF h 1,bF h 2,bF h 3⟩
def nR.start {u:zV} (a:Ks (λq=>l.ownBlock=some q) w w1) (c:w1.ownsRow B 9 1 l n (List.replicate n u)) (b:∀ q,l.ownBlock=some q->q<w.heap.size):nR w B l n u w1.heap.size (zN) (zN) (zN) (w1.alloc (.cells #[l,zN,zN,zN,u] 126)):=
 ⟨a.alloc _,aZ c (bI _ _),Cc,a.size,b⟩
def y8 (w:zW) (l:zV) (X:Nat) (q:Nat):Prop:=(l.ownBlock=some q\/w.heap.size<=q)/\q≠X
def nR.c {u a b c:zV} {X:Nat} (h:nR w B l n u X a b c w1):∀ q,l.ownBlock=some q\/w1.heap.size<=q->y8 w l X q:=λq d=>by
 have f:=h.lt;have g:=h.ks.size;rcases d with d|d
 ·exact ⟨Or.inl d,λe=>h.neX (e▸d)⟩
 ·exact ⟨Or.inr ae,ae⟩
def gO.set {v u x:zV} {k X i:Nat} (h:gO w1 (y8 w l X) v k u):gO (w1.setCell ⟨X,i,none⟩ x) (y8 w l X) v k u:=
 h.ks (P:=λq=>q=X) ((Ks.refl _ _).set X i x rfl) λq a _=>a.2
def gO.next {v u:zV} {k:Nat} (h:gO w C v k u) (a:zB w w'):gO w' C v k u:=h.ks (P:=λ_=>False) (Ks.of a) λ_ _ _ h=>h
def aiy (W:zW) (z:Int):(convert 168 9 (zS W.heap.size 1 1)).run prog (W.alloc (.cells #[.int .u8 z] 5))=.ok (.string ⟨([UInt8.ofNat z.toNat]:By).toArray⟩) (W.alloc (.cells #[.int .u8 z] 5)):=by
 have h:=run_convert_bytes_arg (P:=prog) (W.alloc (.cells #[.int .u8 z] 5)) 168 5 underlying168 underlying5 W.heap.size 0 1 1 [z] rfl (λi a=>by
  obtain rfl:i=0:=ae;rw [bq (W.alloc (.cells #[.int .u8 z] 5)) W.heap.size 0 #[.int .u8 z] 5 (0,0) Cc];rfl) 9 underlying9
 exact h
def alG {k:Nat} (h:k<=9000000):k+1<=9000001:=ae
def alH {k:Nat} (h:k<=9000000):12+(k+1)<=9000100:=ae
def alI {k:Nat} (h:k<=9000001):k / 10<=9000001:=ae
def alJ {j n:Nat} {u:zV} {a:List zV} (h:(List.replicate j u++a).length=n*1) (b:j<n):0<(G a):=by
 rw [b6,List.length_replicate] at h;omega
def aeJ {a k b:Nat} (h:a+k<=b) (c:0<k):a+1+k / 10<=b:=ae
def aiz:(prog.info? 126).map (λi=>(i.zero,i.size,i.bytes))=some (some (.agg #[zN,zN,zN,zN,zG []]),5,112):=aD
def CU {P:Nat->Prop} (h:w.ownsRow B 126 5 U n xs) (hk:Ks P w w') (hP:∀ q,U.ownBlock=some q->¬ P q):w'.ownsRow B 126 5 U n xs:=WU
def KpP (w:zW) (Z B:Nat) (v0 v1 U l:zV) (V:List Bk) (r:Ending) (w':zW):Prop:=∃ a x,r=.returned (.tuple #[])/\Ks (λq=>q=Z\/l.ownBlock=some q\/U.ownBlock=some q) w w'/\w'.heap[Z]?=some (.cells #[v0,v1,a] 72 (0,0))/\w'.ownsRow B 126 5 a (V++[x]).length (xV (V++[x]))/\(∀ q,a.ownBlock=some q->U.ownBlock=some q\/w.heap.size<=q)/\sJ w' (λq=>(l.ownBlock=some q\/w.heap.size<=q)/\a.ownBlock≠some q) x
def T5 (V:List Bk) (x:Bk):xV (V++[x])=xV V++[x.l,x.a,x.b,x.c,zG x.m]:=by
 unfold xV;rw [yo,sD,List.flatMap_nil,iq];rfl
def aeL {X:Nat} {a b c:zV} {r:By} {f u:zW} {g m:Nat} (x:w.heap[Z]?=some (.cells #[v0,v1,U] 72 (0,0))) (t:∀ q,l.ownBlock=some q->q≠Z/\U.ownBlock≠some q) (F:U.ownBlock≠some Z) (C:∀ q,U.ownBlock=some q->q<w.heap.size) (H:nR w B l n (zG r) X a b c f) (Y:gO f (y8 w l X) l n (zG r)) (ha:gO f (y8 w l X) a (n+1) (zG r)) (hb:gO f (y8 w l X) b (n+2) (zG r)) (hc:gO f (y8 w l X) c (n+3) (zG r)) (S:n<=1000) {o:Obj}
  (ho:u.ownsRow B 126 5 (zS g (G V+1) m) (G V+1) (xV V++[l,a,b,c,zG r])) (D:(f.drew.alloc o).grownBy u U.ownBlock) (z:U.ownBlock=some g\/g=f.drew.heap.size+1) :
  KpP w Z B v0 v1 U l V (.returned (.tuple #[])) (u.setCell ⟨Z,2,none⟩ (zS g (G V+1) m)):=by
 have M:=(cz.1 x).1;have W:=H.ks.size;have hX:=H.lt;have hX0:=H.X0;have A:f.drew.heap=f.heap:=rfl;have E:Ks (λq=>l.ownBlock=some q) w (f.drew.alloc o):=H.ks.t (Ks.of (((aM _ _).drew).alloc (aG _) o));have s:Ks (λq=>U.ownBlock=some q) (f.drew.alloc o) u:=⟨D.os,D.tape,D.output,D.size,λk Q S=>D.block k Q λe=>S e.symm⟩;have N:Ks (λq=>q=Z\/l.ownBlock=some q\/U.ownBlock=some q) w u:=(E.wide λq j=>Or.inr (Or.inl j)).t (s.wide λq j=>Or.inr (Or.inr j));have O:g≠Z:=by
  rcases z with h|h
  ·exact λe=>F (e▸h)
  ·rw [A] at h;omega
 have y:u.heap[Z]?=some (.cells #[v0,v1,U] 72 (0,0)):=by
  rw [s.block Z (by simp [A];omega) F,E.block Z M λe=>(t Z e).1 rfl];exact x
 have J:∀ q,y8 w l X q->q<f.heap.size->q≠g/\U.ownBlock≠some q/\q≠Z:=λq j Mh=>by
  refine ⟨λe=>?_,λe=>?_,λe=>?_⟩
  ·rcases z with h|h
   ·rcases j.1 with p|p
    ·exact (t q p).2 (e▸h)
    ·have:=C g h;omega
   ·rw [A] at h;omega
  ·rcases j.1 with p|p
   ·exact (t q p).2 e
   ·have:=C q e;omega
  ·rcases j.1 with p|p
   ·exact (t q p).1 e
   ·omega
 have d:∀ {v:zV} {k:Nat},k<=10000->gO f (y8 w l X) v k (zG r)->ml (u.setCell ⟨Z,2,none⟩ (zS g (G V+1) m)) (λq=>(l.ownBlock=some q\/w.heap.size<=q)/\(Value.slice (some ⟨g,0,none⟩) (G V+1) m).ownBlock≠some q) v r:=λ{v k} Q h=>by
  obtain ⟨ao,c,rfl,h⟩:=h;refine ⟨ao,k,c,rfl,Q,h.imp id ?_⟩;rintro ⟨q,rfl,T,j,R⟩;obtain ⟨p,h2,h3⟩:=J q T j;have L:=s.size;refine ⟨q,rfl,⟨T.1,λe=>p (dp e).symm⟩,?_,λi hi=>?_⟩
  ·simp [A] at L ⊢;omega
  ·have K:(u.setCell ⟨Z,2,none⟩ (zS g (G V+1) m)).heap[q]?=f.heap[q]?:=by
    rw [cY _ _ _ _ (λe=>h3 (show q=Z from e)),s.block q (by simp [A];omega) h2];exact (((aM f.heap.size f).drew).alloc (aG _) o).block q j
   exact (aS K i).t (R i hi)
 refine ⟨_,⟨l,a,b,c,r⟩,rfl,N.set Z 2 _ (Or.inl rfl),(aj y 2 _).t rfl,?_,λq j=>?_,d ae Y,d ae ha,d ae hb,d ae hc⟩
 ·rw [T5,b6];exact CU (P:=λq=>q=Z) ho ((Ks.refl _ _).set Z 2 _ rfl) λq j e=>O ((dp j).t e)
 ·cases j;rcases z with h|h
  ·exact Or.inl h
  ·rw [A] at h;exact Or.inr (show w.heap.size<=g from ae)
def abJ (A:w.heap[Z]?=some (.cells #[v0,v1,U] 72 (0,0))) (h:w.ownsRow B 126 5 U (G V) (xV V)) (hl:(G V)<=9000000) (M:w.ownsRow B 9 1 (.slice bn n cn) n xs) (hn:n<=1000) (hB:B<=w.heap.size) (hnl:∀ q,(Value.slice bn n cn).ownBlock=some q->q≠Z/\U.ownBlock≠some q) (htw:U.ownBlock≠some Z):zC prog 86 #[.pointer (some ⟨Z,2,none⟩),.slice bn n cn] w (KpP w Z B v0 v1 U (.slice bn n cn) V):=by
 obtain ⟨i0,hi,hz0,hz1,hz2⟩:=fe aiz;obtain ⟨O,c,rfl,_,hr⟩:=RP h;have hl1:((G V):Int)<=9000000:=a6.2 hl;have hl0:(0:Int)<=((G V):Int):=mF _;have wR:(n:Int)<=1000:=a6.2 hn;have hc:w.cell? ⟨Z,2,none⟩=some (.slice O (G V) c):=(bq w Z 2 _ _ _ A).t rfl;have D:=I A;have HT:=I h;have HO:=I M;have HN:=I hn;have HL:=I hl;have y:=I hB;have N:=I hnl;have HTW:=I htw;have HR:=I hr;clear A h hl M hn hr hB hnl htw;go_in;go_wp2_with fail;go_loopg [4,5] (G V+1) (λgk m n wr=>∃ (a:By) (k:Nat),m=zG a/\n=zI k/\k<=gk/\k<=9000001/\(G a)+k<=9000100/\Hid (zB w wr))
 case atStart=>exact ⟨[116,104,101,32,111,119,110,101,114,39,115,32],G V+1,rfl,aq,aG _,alG HL.o,alH HL.o,I (aM _ _)⟩
 case round=>
  obtain ⟨a,k,rfl,rfl,hkg,hk,hmk,HB⟩:=hrel;rcases Nat.eq_zero_or_pos k with rfl|X
  ·have MB:=I (aZ HO.o HB.o);clear hk hkg;go_wp2_with fail;go_loopg [6] n (λgj i wz=>∃ (j:Nat) (ys:List zV),j<=n/\n<=j+gj/\i=zI j/\Hid (Ks (λq=>(Value.slice bn n cn).ownBlock=some q) w wz/\wz.ownsRow B 9 1 (.slice bn n cn) n (List.replicate j (zG a)++ys)))
   case atStart=>exact ⟨0,xs,bE _,jD (cS _).symm,rfl,I ⟨Ks.of HB.o,MB.o⟩⟩
   case round=>
    obtain ⟨j,ys,hj,hgj,rfl,K⟩:=hrel;rcases cC j n with f|f
    ·have hlt:=eu f;have S:=I (eJ f hgj);obtain ⟨g,cap,hv,-,xE⟩:=K.o.2.form (th (bE _) f);cases hv;have hyl:0<(G ys):=alJ K.o.2.1 f;obtain ⟨u,hc1⟩:∃ u,wr.cell? ⟨g,j,none⟩=some u:=by
      rw [BA K.o.2 j (by rw [nL];exact f)];exact ⟨_,cU (by rw [K.o.2.1,nL];exact f)⟩
     have hf1:=World.ownsRow.frozenAt K.o.2 j;have HST:=I (World.ownsRow.stored K.o.2 j (zG a)).1;rw [T4 hyl] at HST;have HKS:Hid (Ks (λq=>(Value.slice (some ⟨g,0,none⟩) n cn).ownBlock=some q) w (wr.setCell ⟨g,j,none⟩ (zG a))):=I (K.o.1.set g j _ rfl);go_wp2_with fail;go_roundg (n - (j+1))
     case measure=>exact S.o.2.1
     case rel=>exact ⟨j+1,ys.drop 1,S.o.2.2,S.o.1,aq,I ⟨HKS.o,HST.o⟩⟩
    ·have tA:=eH f;obtain rfl:j=n:=lT hj f;have HXS:Hid (wr.ownsRow B 9 1 (.slice bn j cn) j (List.replicate j (zG a))):=I (by
      have h2:=K.o.2;have h0:ys=[]:=by
       have:=h2.1;rw [b6,List.length_replicate] at this;exact oD ae
      rw [h0,iq] at h2;exact h2)
     have Y:=I (nR.start K.o.1 HXS.o λq J=>(fJ HO.o q J).2);have HBX:Hid (B<=wr.heap.size):=I (bf y.o K.o.1.size);have HN1:Hid (∀ (W:zW) (u:zV) (T:TypeId),∀ i x,[u][i]?=some x->(W.alloc (.cells #[u] T)).cell? ((⟨W.heap.size,0,none⟩:zD).add i)=some x):=I λW u T i x h=>bC W [u] T i x h;clear HXS;go_wp2_with (at_builtin;refine rQ (news:=[zG a]) rfl (.tmp 39) (.tmp 41) rfl ⟨wr.heap.size+1,0,none⟩ 1 rfl rfl (Y.o.next (bI _ _)).own (by have:=HBX.o;simp;omega) HN.o ai ai rfl (λi x h=>pV _ _ aq [zG a] 9 i x h) (λx h=>by rw [iB.1 h];rfl) ?_;intro v1 w1 b;replace b:=I b;apply Hid.o);have s:=I ((Y.o.next (bI _ _)).app b.o);have p:=I (pU.full (C:=y8 w (.slice bn j cn) wr.heap.size) b.o rfl rfl (Y.o.next (bI _ _)).c);have alP:Hid (B<=w1.heap.size):=I (bf y.o s.o.ks.size);obtain ⟨a1,c1,rfl⟩:=b.o.slice;obtain ⟨x0,x1,x2,x3,x4,z1,z2,z3⟩:=H8 s.o.row;have hx1:=s.o.lt;have TC:¬ w1.heap.size=wr.heap.size:=λe=>iC _ (e▸hx1);have hu1:¬ wr.heap.size=w1.heap.size:=λe=>TC e.symm;clear b;apply I;go_wp2_with (at_builtin;refine rQ (news:=[zG a,zG a]) rfl (.tmp 44) (.tmp 47) rfl ⟨w1.heap.size,0,none⟩ 2 rfl rfl (s.o.abH.next (bI _ _)).own (by have:=alP.o;simp;omega) HN.o ai ai rfl (λi x h=>pV _ _ aq [zG a,zG a] 9 i x h) (λx h=>by rw [List.eq_of_mem_replicate (n:=2) h];rfl) ?_;intro v2 w2 b;replace b:=I b;apply Hid.o);have t:=I ((s.o.abH.next (bI _ _)).app b.o);have L:=I (pU.full (C:=y8 w (.slice bn j cn) wr.heap.size) b.o rfl rfl (s.o.abH.next (bI _ _)).c);have p:=I (b.o.keep rfl rfl ((p.o.set).next (bI _ _)) ae);have alQ:Hid (B<=w2.heap.size):=I (bf y.o t.o.ks.size);obtain ⟨a2,c2,rfl⟩:=b.o.slice;obtain ⟨x0,x1,x2,x3,x4,z1,z2,z3⟩:=H8 t.o.row;have hx2:=t.o.lt;have hy2:¬ w2.heap.size=wr.heap.size:=λe=>iC _ (e▸hx2);have hu2:¬ wr.heap.size=w2.heap.size:=λe=>hy2 e.symm;clear b;apply I;go_wp2_with (at_builtin;refine rQ (news:=[zG a,zG a,zG a]) rfl (.tmp 50) (.tmp 54) rfl ⟨w2.heap.size,0,none⟩ 3 rfl rfl (t.o.abI.next (bI _ _)).own (by have:=alQ.o;simp;omega) HN.o ai ai rfl (λi x h=>pV _ _ aq [zG a,zG a,zG a] 9 i x h) (λx h=>by rw [List.eq_of_mem_replicate (n:=3) h];rfl) ?_;intro v3 w3 b;replace b:=I b;apply Hid.o);have H:=I ((t.o.abI.next (bI _ _)).app b.o);have HF3:=I (pU.full (C:=y8 w (.slice bn j cn) wr.heap.size) b.o rfl rfl (t.o.abI.next (bI _ _)).c);have p:=I (b.o.keep rfl rfl ((p.o.set).next (bI _ _)) ae);have L:=I (b.o.keep rfl rfl ((L.o.set).next (bI _ _)) ae);have arD:Hid (B<=w3.heap.size):=I (bf y.o H.o.ks.size);obtain ⟨a3,c3,rfl⟩:=b.o.slice;obtain ⟨x0,x1,x2,x3,x4,z1,z2,z3⟩:=H8 H.o.row;have hx3:=H.o.lt;have hy3:¬ w3.heap.size=wr.heap.size:=λe=>iC _ (e▸hx3);have hu3:¬ wr.heap.size=w3.heap.size:=λe=>hy3 e.symm;clear b;apply I;go_wp2_with fail;have d:=I (H.o.alF (x:=.slice a3 (j+3) c3));have HG1:=I (p.o.set (i:=3) (x:=.slice a3 (j+3) c3));have HG2:=I (L.o.set (i:=3) (x:=.slice a3 (j+3) c3));have HG3:=I (HF3.o.set (i:=3) (x:=.slice a3 (j+3) c3));generalize w3.setCell ⟨wr.heap.size,3,none⟩ (.slice a3 (j+3) c3)=l at *;obtain ⟨x0,x1,x2,x3,x4,-,-,-⟩:=H8 d.o.row;have R:Hid (l.heap[Z]?=some (.cells #[v0,v1,.slice O (G V) c] 72 (0,0))):=I ((d.o.ks.block Z (cz.1 D.o).1 λe=>(N.o Z e).1 rfl).t D.o);have y2:l.cell? ⟨Z,2,none⟩=some (.slice O (G V) c):=(bq l Z 2 _ _ _ R.o).t rfl;have f2:l.frozen? ⟨Z,2,none⟩=false:=bF R.o 2;have HT4:Hid (l.drew.ownsRow B 126 5 (.slice O (G V) c) (G V) (xV V)):=I (CU (P:=λ_=>False) (CU HT.o d.o.ks λq J e=>(N.o q e).2 J) (Ks.of (aM _ _).drew) λ_ _ h=>h);have xB:Hid (B<=l.drew.heap.size):=I (bf y.o d.o.ks.size);have HLB:Hid (G V+1<=maxLen/\(G V+1)*112<=140737488355328):=I (by have h2:=HL.o;unfold maxLen;omega);have F:Hid (Z<l.heap.size/\wr.heap.size<l.heap.size):=I ⟨(cz.1 R.o).1,d.o.lt⟩;have HNT:Hid (some Z≠(Value.slice O (G V) c).ownBlock):=I λe=>HTW.o e.symm;have HNX:Hid (some wr.heap.size≠(Value.slice O (G V) c).ownBlock):=I λe=>iC _ (bG (fJ HT.o _ e.symm).2 d.o.X0);have alU:Z<l.heap.size:=F.o.1;have alV:¬ Z=l.heap.size:=cZ alU;have arE:¬ l.heap.size=Z:=λe=>alV e.symm;clear H p L HF3 hy3 hu3 hx3 z1 z2 z3;have alW:Hid (gO l (y8 w (.slice bn j cn) wr.heap.size) (.slice bn j cn) j (zG a)):=I (gO.own d.o.own rfl λq J=>⟨Or.inl J,λe=>d.o.neX (e▸J)⟩)
     go_region_law (first|(refine yw _ dr (.tmp 61) (.tmp 63) 68 dr B 126 i0 (.agg #[zN,zN,zN,zN,zG []]) 5 112 underlying68 hi hz0 hz1 hz2 rfl ai (.slice O (G V) c) (G V) _ dr (HT4.o.alloc _) ⟨l.drew.heap.size,0,none⟩ 1 1 [.slice bn j cn,.slice a1 (j+1) c1,.slice a2 (j+2) c2,.slice a3 (j+3) c3,zG a] dr rfl (λq u J=>bC l.drew _ 126 q u J) (λu hu=>by simp at hu;rcases hu with rfl|rfl|rfl|rfl|rfl<;>rfl) ai HLB.o.1 HLB.o.2 (bf xB.o aq) (l.drew.heap.size+1) aq ?_;intro g' cap' w5 E o hat vQ;have Q:=(o.block Z (bG F.o.1 (bI l.drew _).size) HNT.o).t ((bI l.drew _).block Z F.o.1);have y2:=(aS Q 2).t y2;have f2:=(qJ Q 2).t f2;have r:=(o.block wr.heap.size (bG F.o.2 (bI l.drew _).size) HNX.o).t ((bI l.drew _).block wr.heap.size F.o.2);have x0:=(aS r 0).t x0;have x1:=(aS r 1).t x1;have x2:=(aS r 2).t x2;have x3:=(aS r 3).t x3;have x4:=(aS r 4).t x4;have B4:=I E;have B5:=I o;have B6:=I hat;clear E o hat Q r))
     all_goals refine bodyPost_end (v:=.tuple #[]) (by simp [results,results86,go_sem]) rfl ?_
     all_goals exact aeL D.o N.o HTW.o (λq J=>(fJ HT.o q J).2) d.o alW.o HG1.o HG2.o HG3.o HN.o B4.o B5.o B6.o
  ·have Jj:(0:Int)<(k:Int):=iD.2 X;have hk2:(k:Int)<=9000001:=a6.2 hk;have hml:((G a):Int)<=9000100:=a6.2 (bf (Nat.le_add_right _ _) hmk);have HD:=I (aeI X _ hkg);have SV:=I (aeJ hmk X);have hcv:=λz=>aiy wr z;go_wp2_with fail;go_roundg (k / 10)
   case measure=>exact HD.o.2.1
   case rel=>exact ⟨a++[48+UInt8.ofNat (k % 10)],k / 10,rfl,aq,aG _,alI hk,by rw [b6];exact SV.o,I (HB.o.alloc HB.o.size _)⟩
end
section
variable {Z w w' W w1 w2:zW} {T C P:Nat->Prop} {E:List En} {c H:Nat->Nat} {U i:Nat} {Q R O l:zV} {X:List Nat} {V:List Bk}
structure Yd where
 S:Nat->Prop
 y:Nat
 vb:zV
 va:zV
 d:De
variable {Y:List Yd}
def CX (X:List Nat):List zV:=X.map λq=>zJ q
structure mC (Z:zW) (U:Nat) (c:Nat->Nat) (Q R O:zV) (X:List Nat) (Y:List Yd) (V:List Bk) (w:zW):Prop where
 row:w.heap[U]?=some (.cells #[Q,R,O] 72 (0,0))
 cw:c U=1
 xs:w.ownsRow Z.heap.size 34 1 Q (G X) (CX X)
 ys:w.ownsRow Z.heap.size 110 1 R (G Y) (CX (Y.map Yd.y))
 ts:w.ownsRow Z.heap.size 126 5 O (G V) (xV V)
 cx:∀ q,Q.ownBlock=some q->c q=2
 cy:∀ q,R.ownBlock=some q->c q=3
 ct:∀ q,O.ownBlock=some q->c q=4
 bk:∀ x,x∈V->sJ w (λq=>c q=5) x
 y9:∀ i (hi:i<G Y),dE w Y[i].S Y[i].y Y[i].vb Y[i].va Y[i].d
 ce:∀ i (hi:i<G Y) q,(Y[i].S q\/kz Y[i].y Y[i].vb Y[i].va q)->c q=10+i
 lt:∀ q,c q≠0->Z.heap.size<=q/\q<w.heap.size
def gZ {B n k:Nat} {a:TypeId} {v:zV} {xs:List zV} (h:w.ownsRow B a k v n xs) (hk:Ks P w w') (hP:∀ q,v.ownBlock=some q->¬ P q):w'.ownsRow B a k v n xs:=WU
def mC.Bi (h:mC Z U c Q R O X Y V w) (f:Ks P w w') (b:i<G Y) (e:∀ q,P q->c q≠10+i):dE w' Y[i].S Y[i].y Y[i].vb Y[i].va Y[i].d:=
 (h.y9 i b).ks f (λq d a=>e q a (h.ce i b q (Or.inr d))) λq d a=>e q a (h.ce i b q (Or.inl d))
def mC.ks (h:mC Z U c Q R O X Y V w) (b:Ks P w w') (f:∀ q,P q->c q=0):mC Z U c Q R O X Y V w':=by
 have d:∀ {q n},c q=n+1->¬ P q:=λg j=>by rw [f _ j] at g;cases g
 exact ⟨b.cells h.row (d h.cw),h.cw,gZ h.xs b λq a=>d (h.cx q a),gZ h.ys b λq a=>d (h.cy q a),gZ h.ts b λq a=>d (h.ct q a),h.cx,h.cy,h.ct,λx l=>(h.bk x l).ks b λq a=>d a,λi k=>h.Bi b k λq a e=>by rw [f q a] at e;omega,h.ce,λq a=>⟨(h.lt q a).1,bG (h.lt q a).2 b.size⟩⟩
def mC.next (h:mC Z U c Q R O X Y V w) (a:zB w w'):mC Z U c Q R O X Y V w':=h.ks (P:=λ_=>False) (Ks.of a) λ_ h=>h.elim
def mC.col (h:mC Z U c Q R O X Y V w) (d:∀ q,c q≠0->c q≠6->H q=c q) (k:∀ q,H q≠0->Z.heap.size<=q/\q<w.heap.size):mC Z U H Q R O X Y V w:=by
 have b:∀ {q n},n≠0->n≠6->c q=n->H q=n:=λh0 f e=>by rw [d _ Oe (by rw [e];exact f),e]
 exact ⟨h.row,b ai ai h.cw,h.xs,h.ys,h.ts,λq a=>b ai ai (h.cx q a),λq a=>b ai ai (h.cy q a),λq a=>b ai ai (h.ct q a),λx j=>(h.bk x j).wide λq a=>b ai ai a,h.y9,λi g q a=>b ae ae (h.ce i g q a),k⟩
def rc (c g:Nat->Nat) (w w':zW) (q:Nat):Nat:=if w.heap.size<=q/\q<w'.heap.size then g q else c q
def Bj {g:Nat->Nat} {q:Nat} (h:q<w.heap.size):rc c g w w' q=c q:=aA λa=>ae
def RS {g:Nat->Nat} {q:Nat} (h:w.heap.size<=q) (a:q<w'.heap.size):rc c g w w' q=g q:=aB ⟨h,a⟩
def Ig {g:Nat->Nat} {q:Nat} (h:rc c g w w' q≠0):c q≠0\/(w.heap.size<=q/\q<w'.heap.size):=by
 unfold rc at h;split at h
 ·rename_i a;exact Or.inr a
 ·exact Or.inl h
def jH.to (h:jH Z T E w) (d:Ks P w w') (f:∀ q,P q->T q) (m:∀ q,T q->Z.heap.size<=q) (j:∀ q,C q->T q\/(w.heap.size<=q/\q<w'.heap.size)):jH Z C E w':=by
 obtain ⟨g,k,F,l,n,c⟩:=h;refine ⟨g.t (d.low (λq a=>m q (f q a)) g.size),λq a=>?_,F,λi p=>(l i p).keep d λq a o=>(c i q a).2.1 (f q o),n,λi q a=>⟨(c i q a).1,λe=>?_,bG (c i q a).2.2 d.size⟩⟩
 ·rcases j q a with b|b
  ·exact bG (k q b) d.size
  ·exact b.2
 ·rcases j q e with b|b
  ·exact (c i q a).2.1 b
  ·have:=(c i q a).2.2;omega
def Kt.ks (h:Kt T w w') (b:zB Z w) (a:zB Z w'):Ks (λq=>¬ T q) w w':=⟨a.os.t b.os.symm,a.tape.t b.tape.symm,a.output.t b.output.symm,h.size,λk _ c=>h.block k (rz.1 c)⟩
def mC.ed {S':Nat->Prop} {d b:zV} {d':De} (h:mC Z U c Q R O X Y V w) (t:i<G Y) (l:Ks (kz Y[i].y Y[i].vb Y[i].va) w w') (p:dE w' S' Y[i].y d b d') (A:∀ q,kz Y[i].y d b q->kz Y[i].y Y[i].vb Y[i].va q\/w.heap.size<=q) (u:∀ q,S' q->Y[i].S q\/w.heap.size<=q) :
  mC Z U (rc c (λ_=>10+i) w w') Q R O X (Y.set i ⟨S',Y[i].y,d,b,d'⟩) V w':=by
 have s:∀ q,kz Y[i].y Y[i].vb Y[i].va q->c q=10+i:=λq a=>h.ce i t q (Or.inr a);have o:∀ {q n},n<10->c q=n->¬ kz Y[i].y Y[i].vb Y[i].va q:=λo z v=>by rw [s _ v] at z;omega
 have g:∀ {q n},n≠0->c q=n->rc c (λ_=>10+i) w w' q=n:=λh0 e=>by rw [Bj (h.lt _ Oe).2,e]
 refine ⟨l.cells h.row (o ai h.cw),g ai h.cw,gZ h.xs l λq a=>o ai (h.cx q a),?_,gZ h.ts l λq a=>o ai (h.ct q a),λq a=>g ai (h.cx q a),λq a=>g ai (h.cy q a),λq a=>g ai (h.ct q a),λx B=>((h.bk x B).ks l λq a=>o ai a).wide λq a=>g ai a,λj hj=>?_,λj hj q a=>?_,λq a=>?_⟩
 ·have e:(Y.set i ⟨S',Y[i].y,d,b,d'⟩).map Yd.y=Y.map Yd.y:=by
   rw [List.map_set];refine rC aq λk m C=>?_;exact YT
  rw [e,tu];exact gZ h.ys l λq a=>o ai (h.cy q a)
 ·have f:j<(G Y):=aal;rw [tj];by_cases e:i=j
  ·subst e;rw [aB rfl];exact p
  ·rw [aA e];exact h.Bi l f λq a y=>by rw [s q a] at y;omega
 ·have f:j<(G Y):=aal;rw [tj] at a;by_cases e:i=j
  ·subst e;rw [aB rfl] at a;have r:q<w'.heap.size:=a.elim (λa=>p.lt q a) λa=>p.CF q a;have:(Y[i].S q\/kz Y[i].y Y[i].vb Y[i].va q)\/w.heap.size<=q:=a.elim (λa=>(u q a).imp Or.inl id) λa=>(A q a).imp Or.inr id;rcases this with a|a
   ·exact g ae (h.ce i t q a)
   ·exact RS a r
  ·rw [aA e] at a;exact g ae (h.ce j f q a)
 ·rcases Ig a with m|m
  ·exact ⟨(h.lt q m).1,bG (h.lt q m).2 l.size⟩
  ·exact ⟨bf (lF (th (h.lt U GV).1 (h.lt U GV).2)) m.1,m.2⟩
def mC.kept {r:Ending} (h:mC Z U c Q R O X Y V w) (A:∀ q,l.ownBlock=some q->c q=6) (o:KpP w U Z.heap.size Q R O l V r w') :
  ∃ a x H P,r=.returned (.tuple #[])/\mC Z U H Q R a X Y (V++[x]) w'/\Ks P w w'/\(∀ q,P q->c q≠0)/\∀ q,H q≠0->c q≠0\/(w.heap.size<=q/\q<w'.heap.size):=by
 obtain ⟨a,x,rfl,s,z,u,D,j⟩:=o;have K:=h.lt U GV;have h0:Z.heap.size<=w.heap.size:=ae;have J:=s.size;have B:∀ {q n},n≠1->n≠6->n≠4->c q=n->¬ (q=U\/l.ownBlock=some q\/O.ownBlock=some q):=λb E C e o=>by
  rcases o with rfl|o|o
  ·rw [h.cw] at e;exact b e.symm
  ·rw [A _ o] at e;exact E e.symm
  ·rw [h.ct _ o] at e;exact C e.symm
 let H:Nat->Nat:=λq=>if q<w.heap.size then (if c q=6 then 5 else c q) else if q<w'.heap.size then (if a.ownBlock=some q then 4 else 5) else 0
 have d:∀ q,H q=if q<w.heap.size then (if c q=6 then 5 else c q) else if q<w'.heap.size then (if a.ownBlock=some q then 4 else 5) else 0:=λq=>rfl
 have p:∀ {q n},n≠0->n≠6->c q=n->H q=n:=λh0 E e=>by
  rw [d,aB (h.lt _ Oe).2,aA (by rw [e];exact E),e]
 have m:∀ q,w.heap.size<=q->q<w'.heap.size->H q=if a.ownBlock=some q then 4 else 5:=λq b k=>by
  rw [d,aA ae,aB k]
 refine ⟨a,x,H,_,rfl,⟨z,p ai ai h.cw,gZ h.xs s λq hq=>B ai ai ai (h.cx q hq),gZ h.ys s λq hq=>B ai ai ai (h.cy q hq),u,λq hq=>p ai ai (h.cx q hq),λq hq=>p ai ai (h.cy q hq),λq hq=>?_,λy t=>?_,λi F=>h.Bi s F λq hq e=>B ae ae ae e hq,λi F q hq=>p ae ae (h.ce i F q hq),λq hq=>?_⟩,s,λq hq=>?_,λq hq=>?_⟩
 ·rcases D q hq with b|b
  ·exact p ai ai (h.ct q b)
  ·rw [m q b (fJ u q hq).2,aB hq]
 ·rcases cG.1 t with t|t
  ·exact ((h.bk y t).ks s λq hq=>B ai ai ai hq).wide λq hq=>p ai ai hq
  ·rw [iB.1 t];have L:sJ w' (λq=>((l.ownBlock=some q\/w.heap.size<=q)/\a.ownBlock≠some q)/\q<w'.heap.size) x:=by
    have f:∀ {v:zV},ml w' (λq=>(l.ownBlock=some q\/w.heap.size<=q)/\a.ownBlock≠some q) v x.m->ml w' (λq=>((l.ownBlock=some q\/w.heap.size<=q)/\a.ownBlock≠some q)/\q<w'.heap.size) v x.m:=by
     rintro v ⟨N,n,c0,rfl,b,k⟩;refine ⟨N,n,c0,rfl,b,k.imp id ?_⟩;rintro ⟨g,rfl,G,C,M⟩;exact ⟨g,rfl,⟨G,C⟩,C,M⟩
    exact ⟨f j.1,f j.2.1,f j.2.2.1,f j.2.2.2⟩
   refine L.wide λq hq=>?_;obtain ⟨⟨b,k⟩,G⟩:=hq;rcases b with b|b
   ·rw [d,aB (h.lt q (by rw [A q b];decide)).2,aB (A q b)]
   ·rw [m q b G,aA k]
 ·rw [d] at hq;split at hq
  ·split at hq
   ·rename_i b k;exact ⟨(h.lt q (by rw [k];decide)).1,ae⟩
   ·exact ⟨(h.lt q hq).1,ae⟩
  ·split at hq
   ·exact ⟨ae,kM⟩
   ·exact absurd rfl hq
 ·rcases hq with rfl|hq|hq
  ·rw [h.cw];decide
  ·rw [A q hq];decide
  ·rw [h.ct q hq];decide
 ·rw [d] at hq;split at hq
  ·split at hq
   ·rename_i b k;exact Or.inl (by rw [k];decide)
   ·exact Or.inl hq
  ·exact YI
end
end Go.Proofs.YtihgojcfpnhelaaGreatDoor
