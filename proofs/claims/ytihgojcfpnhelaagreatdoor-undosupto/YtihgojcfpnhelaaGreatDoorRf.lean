import Derived.Test.YtihgojcfpnhelaaGreatDoorIj
import Derived.Test.YtihgojcfpnhelaaGreatDoorTie
set_option maxRecDepth 100000
set_option maxHeartbeats 4000000
set_option linter.all false
namespace Go.Proofs.YtihgojcfpnhelaaGreatDoor
open Go.RowKit
section
section
open Go.ChangeShapes Go.WideShapes Go.ChangeAt Go.RowKit
def jo {W:World} {n:String} {g:Nat} {cs:Array Value} (a:Tryz.prog.globalNamed n=some g) (h:W.var? Tryz.prog n=some cs):∃ t fr,W.heap[g]?=some (.cells cs t fr):=by
 unfold World.var? at h;rw [a,Option.bind_some] at h;split at h
 .rename_i c t fr b;cases h;exact ⟨t,fr,b⟩
 .cases h
section
variable {H:Type} {enc:TypeId × Value->H} {P:Program} {w:World} {base:Nat} {sp:Nat->Bool} {held:Bool} {fuel:Nat} {t e:TypeId} {n:Nat} {cs:List Value} {p:List MemPlace}
def IR {ss:List By} (k:P.underlying t=some (.array n e)) (d:P.underlying e=some .string) (b:P.cellsOf e=1) (o:P.cellsOf t=n)
  (h:DataW.trod enc P w base sp held fuel t cs=some (.agg (ss.map λs=>.lit (.string s)),p)):cs=ss.map λs=>Value.string ⟨s.toArray⟩:=by
 obtain ⟨xs,m,rfl,hx,q,r,a⟩:=DataW.trod_array k h;simp only [mI,wD] at hx;have f:ss.length=n:=(by have:=eL List.length hx.1;simp at this;omega);apply List.ext_getElem?;intro i;by_cases j:i<n
 .have c:=a i j;rw [cU (by omega),b] at c;obtain ⟨s,g,l,_⟩:=wo d c;have h1:cs[i]?=some (.string s):=by
   have:=eL (·[0]?) g;simpa [sX,qz] using this
  have h2:=eL (·[i]?) hx.1;simp only [kn,cU (show i<xs.length by omega),cU (show i<ss.length by omega),oH,rB,l,DataW.lit.injEq,Lit.string.injEq] at h2;rw [h1,kn,cU (show i<ss.length by omega),h2];rfl
 .rw [List.getElem?_eq_none (by omega),List.getElem?_eq_none (by simp;omega)]
def AY {ss:List (By × Int)} {f0 f1:Field} (Q4:P.underlying t=some (.array n e)) (u:P.underlying e=some (.struct #[f0,f1])) (h0:P.underlying f0.type=some .string) (h1:P.underlying f1.type=some (.int .i64))
  (l:f0.offset=0) (o:f1.offset=1) (g:P.cellsOf f0.type=1) (j:P.cellsOf f1.type=1) (q:P.cellsOf e=2) (Tc:P.cellsOf t=n*2)
  (h:DataW.trod enc P w base sp held fuel t cs=some (.agg (ss.map λs=>.agg [.lit (.string s.1),.lit (.int .i64 s.2)]),p)):cs=ss.flatMap λs=>[Value.string ⟨s.1.toArray⟩,.int .i64 s.2]:=by
 obtain ⟨xs,m,rfl,hx,hl,y,a⟩:=DataW.trod_array Q4 h;simp only [mI,wD] at hx;have Td:ss.length=n:=(by have:=eL List.length hx.1;simp at this;omega);have b:∀ i (hi:i<ss.length),cs[i*2]?=some (.string ⟨ss[i].1.toArray⟩)/\cs[i*2+1]?=some (.int .i64 ss[i].2):=by
  intro i hi;have r:=a i (by omega);rw [cU (by omega),q] at r;obtain ⟨D,E,F,x,hlen,d,c⟩:=ChangeShapes.trod_struct2 u r;rw [l,g] at d;rw [o,j] at c;obtain ⟨s,hs,C,_⟩:=wo h0 d;obtain ⟨z,hz,k,_⟩:=DataW.trod_int h1 c;have Q0:cs[i*2]?=some (.string s):=(by have:=eL (·[0]?) hs;simpa [sX,qz] using this);have e1:cs[i*2+1]?=some (.int .i64 z):=(by have:=eL (·[0]?) hz;simpa [sX,qz] using this);have h2:=eL (·[i]?) hx.1;simp only [kn,cU (show i<xs.length by omega),cU hi,oH,rB,x,C,k,wD,List.cons.injEq,DataW.lit.injEq,Lit.string.injEq,Lit.int.injEq,true_and,and_true] at h2;rw [Q0,e1,h2.1,h2.2];exact ⟨rfl,rfl⟩
 have hlen:cs.length=ss.length*2:=(by rw [hl,Tc,Td]);clear hx a h hl Tc y Td
 induction ss generalizing cs with
 | nil=>simpa using hlen
 | cons s ss v=>
  match cs,hlen with
  | [],hlen=>simp at hlen
  | [_],hlen=>simp at hlen;omega
  | c0::c1::cs,hlen=>
   have f:=b 0 (by simp);simp at f;have:=v (cs:=cs) (λi hi=>by
    have:=b (i+1) (by simpa using hi);rw [show (i+1)*2=i*2+1+1 by omega] at this;simpa using this) (by simp at hlen;omega)
   rw [sD,this,f.1,f.2];rfl
def AZ {ss:List (By × By × By)} {f0 f1 f2:Field} (QV:P.underlying t=some (.array n e)) (D:P.underlying e=some (.struct #[f0,f1,f2])) (h0:P.underlying f0.type=some .string) (h1:P.underlying f1.type=some .string) (l:P.underlying f2.type=some .string)
  (r:f0.offset=0) (y:f1.offset=1) (x:f2.offset=2) (j:P.cellsOf f0.type=1) (o:P.cellsOf f1.type=1) (v:P.cellsOf f2.type=1) (Q0:P.cellsOf e=3) (Tc:P.cellsOf t=n*3)
  (h:DataW.trod enc P w base sp held fuel t cs=some (.agg (ss.map λs=>.agg [.lit (.string s.1),.lit (.string s.2.1),.lit (.string s.2.2)]),p)):cs=ss.flatMap λs=>[Value.string ⟨s.1.toArray⟩,.string ⟨s.2.1.toArray⟩,.string ⟨s.2.2.toArray⟩]:=by
 obtain ⟨xs,m,rfl,hx,hl,G,a⟩:=DataW.trod_array QV h;simp only [mI,wD] at hx;have Td:ss.length=n:=(by have:=eL List.length hx.1;simp at this;omega);have b:∀ i (hi:i<ss.length),cs[i*3]?=some (.string ⟨ss[i].1.toArray⟩)/\cs[i*3+1]?=some (.string ⟨ss[i].2.1.toArray⟩)/\cs[i*3+2]?=some (.string ⟨ss[i].2.2.toArray⟩):=by
  intro i hi;have Q4:=a i (by omega);rw [cU (by omega),Q0] at Q4;obtain ⟨L,N,M,O,F,hlen,d,c,f⟩:=Deep.trod_struct3 D Q4;rw [r,j] at d;rw [y,o] at c;rw [x,v] at f;obtain ⟨s,hs,QT,_⟩:=wo h0 d;obtain ⟨z,hz,q,_⟩:=wo h1 c;obtain ⟨u,hu,k,_⟩:=wo l f;have H:cs[i*3]?=some (.string s):=(by have:=eL (·[0]?) hs;simpa [sX,qz] using this);have e1:cs[i*3+1]?=some (.string z):=(by have:=eL (·[0]?) hz;simpa [sX,qz] using this);have C:cs[i*3+2]?=some (.string u):=(by have:=eL (·[0]?) hu;simpa [sX,qz] using this);have h2:=eL (·[i]?) hx.1;simp only [kn,cU (show i<xs.length by omega),cU hi,oH,rB,F,QT,q,k,wD,List.cons.injEq,DataW.lit.injEq,Lit.string.injEq,and_true] at h2;rw [H,e1,C,h2.1,h2.2.1,h2.2.2];exact ⟨rfl,rfl,rfl⟩
 have hlen:cs.length=ss.length*3:=(by rw [hl,Tc,Td]);clear hx a h hl Tc G Td
 induction ss generalizing cs with
 | nil=>simpa using hlen
 | cons s ss E=>
  match cs,hlen with
  | [],hlen=>simp at hlen
  | [_],hlen=>simp at hlen;omega
  | [_,_],hlen=>simp at hlen;omega
  | c0::c1::c2::cs,hlen=>
   have g:=b 0 (by simp);simp at g;have:=E (cs:=cs) (λi hi=>by
    have:=b (i+1) (by simpa using hi);rw [show (i+1)*3=i*3+1+1+1 by omega] at this;simpa using this) (by simp at hlen;omega)
   rw [sD,this,g.1,g.2.1,g.2.2];rfl
def A8 {ss:List (By × Int × Nat × Bool)} {f0 f1 f2 f3:Field} (R:P.underlying t=some (.array n e)) (QT:P.underlying e=some (.struct #[f0,f1,f2,f3])) (h0:P.underlying f0.type=some .string) (h1:P.underlying f1.type=some (.int .i64)) (q:P.underlying f2.type=some (.int .i64)) (C:P.underlying f3.type=some .bool)
  (Q4:f0.offset=0) (F:f1.offset=1) (E:f2.offset=2) (y:f3.offset=3) (k:P.cellsOf f0.type=1) (r:P.cellsOf f1.type=1) (D:P.cellsOf f2.type=1) (Q0:P.cellsOf f3.type=1) (G:P.cellsOf e=4) (Tc:P.cellsOf t=n*4)
  (h:DataW.trod enc P w base sp held fuel t cs=some (.agg (ss.map λs=>.agg [.lit (.string s.1),.lit (.int .i64 s.2.1),.lit (.int .i64 (s.2.2.1:Int)),.lit (.bool s.2.2.2)]),p)):cs=ss.flatMap λs=>[Value.string ⟨s.1.toArray⟩,.int .i64 s.2.1,.int .i64 (s.2.2.1:Int),.bool s.2.2.2]:=by
 obtain ⟨xs,m,rfl,hx,hl,N,b⟩:=DataW.trod_array R h;simp only [mI,wD] at hx;have Td:ss.length=n:=(by have:=eL List.length hx.1;simp at this;omega);have c:∀ i (hi:i<ss.length),cs[i*4]?=some (.string ⟨ss[i].1.toArray⟩)/\cs[i*4+1]?=some (.int .i64 ss[i].2.1)/\cs[i*4+2]?=some (.int .i64 (ss[i].2.2.1:Int))/\cs[i*4+3]?=some (.bool ss[i].2.2.2):=by
  intro i hi;have H:=b i (by omega);rw [cU (by omega),G] at H;obtain ⟨U,Q6,W,V,Y,M,hlen,f,d,j,g⟩:=Go.Joins.trod_struct4 QT H;rw [Q4,k] at f;rw [F,r] at d;rw [E,D] at j;rw [y,Q0] at g;obtain ⟨s,hs,S,_⟩:=wo h0 f;obtain ⟨z,hz,x,_⟩:=DataW.trod_int h1 d;obtain ⟨u,hu,l,_⟩:=DataW.trod_int q j;obtain ⟨v,Q5,o⟩:=DataW.trod_bool C g;have O:cs[i*4]?=some (.string s):=(by have:=eL (·[0]?) hs;simpa [sX,qz] using this);have e1:cs[i*4+1]?=some (.int .i64 z):=(by have:=eL (·[0]?) hz;simpa [sX,qz] using this);have QV:cs[i*4+2]?=some (.int .i64 u):=(by have:=eL (·[0]?) hu;simpa [sX,qz] using this);have T:cs[i*4+3]?=some (.bool v):=by
   have:=eL (·[0]?) Q5;simpa [sX,qz] using this
  have h2:=eL (·[i]?) hx.1;simp only [kn,cU (show i<xs.length by omega),cU hi,oH,rB,M,S,x,l,o,wD,List.cons.injEq,DataW.lit.injEq,Lit.string.injEq,Lit.int.injEq,Lit.bool.injEq,true_and,and_true] at h2;rw [O,e1,QV,T,h2.1,h2.2.1,h2.2.2.1,h2.2.2.2];exact ⟨rfl,rfl,rfl,rfl⟩
 have hlen:cs.length=ss.length*4:=(by rw [hl,Tc,Td]);clear hx b h hl Tc N Td
 induction ss generalizing cs with
 | nil=>simpa using hlen
 | cons s ss L=>
  match cs,hlen with
  | [],hlen=>simp at hlen
  | [_],hlen=>simp at hlen;omega
  | [_,_],hlen=>simp at hlen;omega
  | [_,_,_],hlen=>simp at hlen;omega
  | c0::c1::c2::c3::cs,hlen=>
   have a:=c 0 (by simp);simp at a;have:=L (cs:=cs) (λi hi=>by
    have:=c (i+1) (by simpa using hi);rw [show (i+1)*4=i*4+1+1+1+1 by omega] at this;simpa using this) (by simp at hlen;omega)
   rw [sD,this,a.1,a.2.1,a.2.2.1,a.2.2.2];rfl
end
def G6:List (By × By × By):=[([],[],[]),([],[],[]),([],[],[]),([105,102,40],[44,32],[41]),([],[32,97,110,100,32],[]),([],[32,111,114,32],[]),([110,111,116,32],[],[]),([116,114,117,101],[],[]),([102,97,108,115,101],[],[]),([40],[],[41]),([],[],[]),([],[],[]),([],[32,43,32],[]),([],[32,45,32],[]),([45],[],[]),([],[32,42,32],[]),([],[32,47,32],[]),([],[32,37,32],[]),([],[32,61,32],[]),([],[32,60,32],[])]
def Si:Tryz.prog.globalNamed "fields/rules.spellings" = some 4:=by kernel_rfl
def jj:Tryz.prog.globalNamed "fields/token.meanings" = some 1:=by kernel_rfl
def Sj:Tryz.prog.globalNamed "fields/rules.ahead" = some 2:=by kernel_rfl
def jm:Tryz.prog.globalNamed "fields/rules.between" = some 3:=by kernel_rfl
def Sk:Tryz.prog.globalNamed "fields/lines.heads" = some 0:=by kernel_rfl
def G7:(Tryz.prog.globals[0]?).map (·.type)=some 145:=by kernel_rfl
def jp:Tryz.prog.globalNamed "math/bits.deBruijn64tab" = some 10:=by kernel_rfl
def G8:(Tryz.prog.globals[4]?).map (·.type)=some 213:=by kernel_rfl
def G9:(Tryz.prog.globals[1]?).map (·.type)=some 208:=by kernel_rfl
def Ha:(Tryz.prog.globals[2]?).map (·.type)=some 209:=by kernel_rfl
def Hb:(Tryz.prog.globals[3]?).map (·.type)=some 209:=by kernel_rfl
def Sl:(Tryz.prog.globals[8]?).map (·.type)=some 189:=by kernel_rfl
def Hc:(Tryz.prog.globals[5]?).map (·.type)=some 264:=by kernel_rfl
def da: "*" ++ "errors.errorString" = "*errors.errorString":=by decide
def He (u:TypeId) (h:Tryz.prog.typeName? 3 u=some "*errors.errorString"):u=319:=
 typeName_ptr_named (nm:= "errors.errorString") (by rw [da];kernel_rfl) (by kernel_rfl) (by decide) u (by rw [da];exact h)
def Dy {W:World} (h:laidMet Tryz.prog Rows.roundRow.laid W):∃ c p,W.var? Tryz.prog "strconv.ErrRange" = some #[.iface c p]:=by
 obtain ⟨a,s,b,_⟩:=laid_sentinel (n:= "strconv.ErrRange") h.tail.tail.tail ID Sl Tryz.underlying189 He Tryz.underlying319 Tryz.underlying321 rfl rfl wx (by kernel_rfl) (by kernel_rfl);exact ⟨_,_,b⟩
def rU {W:World} (h:laidMetH Tryz.prog Rows.roundRow.laid W):Env W/\jZ W:=by
 rw [MakeChecks.laidMetH_plain _ _ _ (by kernel_rfl)] at h;have C:=Dy h;obtain ⟨P,⟨F,t7,x,f7,L,R,o,q,r,v,⟨N,t8,w,f8,E,M,b,p,g,s,⟨QV,t6,z,f6,QT,S,f,i,d,a,⟨Q5,t5,Q0,f5,U,T,j,c,m,u,⟨H,t4,n,f4,O,G,l,Q4,D,y,
  ⟨g1,t1,cs1,f1,p1,q1,hg1,ht1,hv1,hd1,⟨g0,t0,cs0,f0,p0,q0,hg0,ht0,hv0,hd0,⟨g3,t3,cs3,f3,p3,q3,hg3,ht3,hv3,hd3,⟨g2,t2,cs2,f2,p2,q2,hg2,ht2,hv2,hd2,⟨g9,t9,cs9,f9,p9,q9,hg9,ht9,hv9,hd9,_,_⟩,_⟩,_⟩,_⟩,_⟩,_⟩,_⟩,_⟩,_⟩,_⟩,_,_⟩:=h
 obtain rfl:=dp (Si.symm.t hg0);obtain rfl:=dp (jj.symm.t hg1);obtain rfl:=dp (Sj.symm.t hg2);obtain rfl:=dp (jm.symm.t hg3);obtain rfl:=dp (ID.symm.t j);obtain rfl:=dp (ir.symm.t f);obtain rfl:=dp (jp.symm.t b);obtain rfl:=dp (Sk.symm.t hg9);obtain rfl:=dp (G7.symm.t ht9);obtain rfl:=dp (G8.symm.t ht0);obtain rfl:=dp (G9.symm.t ht1);obtain rfl:=dp (Ha.symm.t ht2);obtain rfl:=dp (Hb.symm.t ht3);obtain rfl:=dp (Sl.symm.t c);obtain rfl:=dp (Hc.symm.t i);refine ⟨⟨?_,?_,?_,?_,?_,?_,?_⟩,?_⟩
 .have:=AZ (ss:=G6) Tryz.underlying213 Tryz.underlying212 wx wx wx rfl rfl rfl (by kernel_rfl) (by kernel_rfl) (by kernel_rfl) (by kernel_rfl) (by kernel_rfl) hd0;have e:cs0=Sc:=yv.1 (this.t rfl);rw [e] at hv0;exact jo Si hv0
 .have:=AY (ss:=dX) Tryz.underlying208 Tryz.underlying207 wx Tryz.underlying84 rfl rfl (by kernel_rfl) (by kernel_rfl) (by kernel_rfl) (by kernel_rfl) hd1;have e:cs1=Qe:=yv.1 this;rw [e] at hv1;exact jo jj hv1
 .have:=Lib.cells_of_tab (zs:=kY) Tryz.underlying209 Tryz.underlying3 (by kernel_rfl) (by kernel_rfl) hd2;have e:cs2=IC:=yv.1 this;rw [e] at hv2;exact jo Sj hv2
 .have:=Lib.cells_of_tab (zs:=uv) Tryz.underlying209 Tryz.underlying3 (by kernel_rfl) (by kernel_rfl) hd3;have e:cs3=Qf:=yv.1 this;rw [e] at hv3;exact jo jm hv3
 .exact C
 .have:=Lib.cells_of_tab (zs:=Lib.pow10Tab) Tryz.underlying264 Tryz.underlying187 (by kernel_rfl) (by kernel_rfl) a;unfold Lib.TabIs;rw [d,<- this]
 .obtain ⟨t,fr,k⟩:=jo jp g;rcases cC 10 W.heap.size with h|h
  .exact h
  .rw [Array.getElem?_eq_none h] at k;cases k
 .have:=A8 (ss:=aQ) Tryz.underlying145 Tryz.underlying144 wx Tryz.underlying95 Tryz.underlying3 Tryz.underlying4 rfl rfl rfl rfl (by kernel_rfl) (by kernel_rfl) (by kernel_rfl) (by kernel_rfl) (by kernel_rfl) (by kernel_rfl) hd9;have e:cs9=IB:=yv.1 (this.t rfl);rw [e] at hv9;exact jo Sk hv9
end
end
end Go.Proofs.YtihgojcfpnhelaaGreatDoor
