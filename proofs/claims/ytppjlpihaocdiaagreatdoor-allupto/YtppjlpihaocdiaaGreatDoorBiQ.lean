import Derived.Test.YtppjlpihaocdiaaGreatDoorBgQ
set_option linter.all false
set_option maxRecDepth 100000
set_option maxHeartbeats 16000000
namespace Go.Proofs.YtppjlpihaocdiaaGreatDoor
open Go.RowKit Go.Proofs.Tryz
variable{w u v:ae}{a b c d e:Nat}{s t:ag}{x y z:af}{p D:Int}{l:List af}{f:Bool}{g:List Nat}{h:Nat->Prop}{o:Option Addr}{r:List UInt8}{A:Nat->Bool}{B:Nat->Nat->Bool}{C:Nat->Nat->Prop}(i:Nat)(S T:ag)(V X:af)(j k m n:Nat)(Z:Int)(W:ae)
def Hq.up{n:List ag}(o:Hq w a b n g)(f:Below c w u)(h:a<c)(k:∀e d,w.cell? (O a 3)=some e\/w.cell? (O a 4)=some e->e.ownBlock=some d->d<c):Hq u a b n g:=by
 obtain ⟨⟨p,q,r⟩,⟨e,j,s⟩,⟨l,m,t⟩,v,x⟩:=o;exact ⟨⟨p,q,(f.cell (p:=O a 2) h).trans r⟩,⟨e,(f.cell (p:=O a 3) h).trans j,da s fun d i=>f.block d (k e d (.inl j) i)⟩,⟨l,(f.cell (p:=O a 4) h).trans m,da t fun d i=>f.block d (k l d (.inr m) i)⟩,v,x⟩
def amz{q:Mf}(W:fj q)(c:Dw)(b:Dd)(t v qa K R:af)(M:Nat)(P:List ag)(L:List Nat)(h:Dc)(d:Cm)(D:ae)(A:Dop c b t v qa K R M P L h d D):
  Calls prog 92 #[.pointer (some ⟨c.b,0,none⟩), .agg (ig h qa K R).toArray] D (Zq q c b t v h d D):=by
 have n:=hd A;have a3:=hd W;have aB:=A.r.kd;have o:=A.r.lt;have X:=A.L;have aC:=A.bt;have aD:=A.out;have aE:=A.r.tz;have Z:=A.num;have a4:=A.arl;clear A W;go_in;go_upto_region 1 with (refine ti 3 rfl rfl 177 (.tmp 1) rfl (ig h qa K R) rfl ?_;intro p e F a)
 have k:=J (n.out.de.q.below a);have w:=F.cell (k:=0) rfl;have aF:=F.cell (k:=9) rfl;have a5:=k.1.cell (k:=9) rfl;have aG:=k.1.cell (k:=8) rfl;have H:=hd a;clear a e;have a6:(d.R=1\/d.R=2\/d.R=16)\/d.R=13\/(d.R=3\/d.R=4)\/d.R=5\/d.R=6\/d.R=12\/d.R=14\/d.R=15\/d.R=17\/d.R=18\/d.R=19\/d.R=20\/(d.R=0\/d.R=7\/d.R=8\/d.R=9\/d.R=10\/d.R=11):=Q
 obtain a|a|a|a|a|a|a|a|a|a|a|a|a:=a6
 .have g:Y (b.cz q c d h=b.kj h):=G a;have i:=anp c b t v qa K R h p k.1 Q Q (by rw [o];obtain f|f|f:=a<;>rw [f]<;>decide);generalize b.kj h=T at i g;obtain a|a|a:=a<;>rw [o,a] at w
  all_goals
   go_wp2_with (refine ir 21 rfl rfl 177 (.tmp 3) rfl _ rfl _ _ F underlying177 rfl (Dx _ _ _ _) ?_);refine i.mono ?_;rintro f s ⟨rfl,e⟩;have j:=hd (k.trans e);clear i e;go_wp21;go_ret;exact ⟨by rw [g.out];rfl,t,by rw [g.out];exact j.out⟩
 .have g:Y (b.cz q c d h=({b.jk c with ck:=2},-4)):=by rw [Y,Dd.cz];simp [a]
  have i:=Ua c b t v p k.1 Q;rw [o,a] at w;go_wp21;refine i.mono ?_;rintro f s ⟨rfl,e⟩;have j:=hd (k.trans e);have l:=e.1.cell (k:=16) rfl;have x:=e.1.cd 16 Q;clear i e;go_wp21;go_ret;exact ⟨by rw [g.out];rfl,_,by rw [g.out];exact j.ck 2⟩
 .have g:Y (b.cz q c d h=b.next c (decide (d.R=4))):=by rw [Y,Dd.cz];obtain a|a:=a<;>simp [a]
  have i:=ard c b t v (decide (d.R=4)) h.di p (by rw [o];obtain f|f:=a<;>rw [f]<;>decide) k.1 Q Q n.out.ji n.out.rest Z;generalize b.next c (decide (d.R=4))=T at i g
  rw [o] at i;obtain a|a:=a<;>rw [o,a] at w<;>rw [a] at i
  all_goals
   go_wp21;refine i.mono ?_;rintro f s ⟨rfl,l,e⟩;have j:=hd (k.trans e);clear i e;go_wp21;go_ret;exact ⟨by rw [g.out];rfl,l,by rw [g.out];exact j.out⟩
 .have g:Y (b.cz q c d h=(b.print b.L,-1)):=by rw [Y,Dd.cz];simp [a]
  have i:=Eo c b t v b.L p k.1 Q;rw [o,a] at w;go_wp21;refine i.mono ?_;rintro f s ⟨rfl,e⟩;have j:=hd (k.trans e);clear i e;go_wp21;go_ret;exact ⟨by rw [g.out];rfl,_,by rw [g.out];exact j.out⟩
 .obtain ⟨l,y,B⟩:∃l,ci b.L 0=l/\Y (Dz b.L=if l<b.L.size then (l:Int) else-1):=⟨_,rfl,rfl⟩;have g:Y (b.cz q c d h=(b.print (b.L.extract 0 l),-1)):=by rw [Y,Dd.cz,←y];simp [a,qh]
  have i:=Tj b.L p Q;have a7:(b.L.extract 0 l).size<=80:=bq (pd b.L _ _) X;have U:=hd fun (x:ae) (e:DE c x b t v)=>Eo c b t v (b.L.extract 0 l) x e Q
  have r:l<=b.L.size:=by rw [←y];exact (Ki b.L 0 (ey _)).2.2.2
  clear y;rw [o,a] at w;go_wp21;refine i.mono ?_;rintro f s ⟨rfl,e⟩;have j:=hd (k.below e);have a5:=j.1.cell (k:=9) rfl;clear i e;have m:=U.out s j.1;rw [B.out];by_cases o:l<b.L.size
  .rw [G o];have z:decide ((l:Int)<0)=false:=qD
   have u:(l:Int)<=(b.L.size:Int):=Q
   clear B;go_wp21;refine m.mono ?_;rintro f a0 ⟨rfl,e⟩;have y:=hd (j.trans e);clear m e;go_wp21;go_ret;exact ⟨by rw [g.out];rfl,_,by rw [g.out];exact y.out⟩
  rw [N o];obtain rfl:l=b.L.size:=Q
  have z:b.L.extract 0 b.L.size=b.L:=qD
  rw [z] at m g;clear B o r z;go_wp21;refine m.mono ?_;rintro f a0 ⟨rfl,e⟩;have y:=hd (j.trans e);clear m e;go_wp21;go_ret;exact ⟨by rw [g.out];rfl,_,by rw [g.out];exact y.out⟩
 .have g:Y (b.cz q c d h=(b.print (itoa b.number),-1)):=by rw [Y,Dd.cz];simp [a]
  have i:=amk b.number p Z a4;have a7:=yf b.number Q;have U:=hd fun (x:ae) (e:DE c x b t v)=>Eo c b t v (itoa b.number) x e Q
  rw [o,a] at w;go_wp21;refine i.mono ?_;rintro f s ⟨rfl,e⟩;have j:=hd (k.below e);have i:=U.out s j.1;go_wp21;refine i.mono ?_;rintro f a0 ⟨rfl,e⟩;have y:=hd (j.trans e);clear i e;go_wp21;go_ret;exact ⟨by rw [g.out];rfl,_,by rw [g.out];exact y.out⟩
 .have g:Y (b.cz q c d h=({b with ef:=b.ef++ [d.text]},-1)):=by rw [Y,Dd.cz];simp [a]
  have B:=hd (n.out.r.text (.inl a));obtain ⟨S,V,a1,a2,a8⟩:=info_parts Ux;have z:=k.1.cell (k:=11) rfl;have a9:=k.1.cd 11 Q;have aH:b.ef.length<=1099510000000:=by
   have:b.ef.length<=fz b.ef:=by
    unfold fz;generalize b.ef=l
    induction l with
    |nil=>simp
    |cons m l r=>simp only [vw,List.sum_cons,xv];omega
   omega
  have r:=k.1.lt;have aI:∀l,(p.alloc l).cell? (O c.b 11)=some t:=fun l=>(ac 11 (im p l c.b r)).trans z
  have aJ:=bq k.1.le (Nat.le_of_lt r);rw [o,a] at w;go_wp21;go_region_law
   ((refine step_append_lies _ (by rfl) _ _ _ (by rfl) c.B 9 S _ 1 16 underlying62 V a1 a2 a8 rfl Q t b.ef.length (sv b.ef) (by rfl) ((k.1.cg.alloc _).drew)
      (O p.heap.size 0) 1 1 [.string h.text] (by rfl) (by rfl) (World.news_of_block (cs:= #[.string h.text]) (t:=9) (fr:=(0,0)) (heap_alloc_new p _)) (by simp [Value.oneCell'])
      Q qH Q qB (p.heap.size+1) qD ?_;intro aK aL s u C E aA;have m:=k.later u C E;have aM:=(ac 11 m.1).trans z;have aN:=(ad 11 m.1).trans a9;have j:=hd m.2;clear m u C E aA))
  all_goals go_wp21
  all_goals go_ret
  all_goals exact ⟨by rw [g.out];rfl,_,by rw [g.out,←B.out];exact j.out⟩
 .have g:Y (b.cz q c d h=(b.print d.text,-1)):=by rw [Y,Dd.cz];simp [a]
  have B:=hd (n.out.r.text (.inr (.inl a)));have i:=Eo c b t v h.text p k.1 Q;rw [o,a] at w;go_wp21;refine i.mono ?_;rintro f s ⟨rfl,e⟩;have j:=hd (k.trans e);clear i e;go_wp21;go_ret;exact ⟨by rw [g.out];rfl,_,by rw [g.out,←B.out];exact j.out⟩
 .have g:Y (b.cz q c d h=(b,(d.cn:Int))):=by rw [Y,Dd.cz];simp [a]
  have V:=k.1.cell (k:=0) rfl;have l:=hd fun (x:ae) (z:Below D.heap.size D x)=>ac8 c.rb M P L h.text x (n.out.rd.up (z.mono (bq n.out.de.le (Nat.le_of_lt n.out.de.lt))) n.out.rl n.out.rk) n.out.n
  rw [show goalF M h.text P L=d.cn from n.out.r.wj (.inl a)] at l;rw [o,a] at w;go_wp21;go_region_with (go_at_call 141;go_call l.out p.drew ⟨H.os,H.tape,H.output,H.size,H.block⟩ as f s ⟨rfl,e⟩;have j:=hd ((k.drewN 1).below e);clear e)
  all_goals
   go_wp21;go_ret;exact ⟨by rw [g.out];rfl,_,by rw [g.out];exact j.out⟩
 .have g:Y (b.cz q c d h=if b.put=true then ({b with put:=false},(d.cn:Int)) else (b,-1)):=by rw [Y,Dd.cz];simp [a]
  have r:=k.1.cell (k:=14) rfl;rw [o,a] at w;cases m:b.put<;>rw [m] at r
  .rw [m,N qG] at g;go_wp21;go_ret;exact ⟨by rw [g.out];rfl,_,by rw [g.out];exact k⟩
  rw [m,G rfl] at g;have C:=k.1.cd 14 Q;have j:=hd (k.Pz false);have V:=j.1.cell (k:=0) rfl;have E:D.heap.size≠c.b:=by have:=n.out.de.lt;omega
  have l:=hd fun (x:ae) (z:Below c.B D x)=>ac8 c.rb M P L h.text x (n.out.rd.up z n.out.rl n.out.rk) n.out.n
  rw [show goalF M h.text P L=d.cn from n.out.r.wj (.inr a)] at l;have u:=hd ((j.drewN 1).low n.out.de);go_wp21;go_region_with (go_at_call 141;go_call l.out (p.setCell (O c.b 14) (.bool false)).drew u as f s ⟨rfl,e⟩;have y:=hd ((j.drewN 1).below e);clear e)
  all_goals
   go_wp21;go_ret;exact ⟨by rw [g.out];rfl,_,by rw [g.out];exact y.out⟩
 .have g:Y (b.cz q c d h=((b.subst q c d).1,if (b.subst q c d).2=true then-1 else-4)):=by rw [Y,Dd.cz];simp [a]
  have m:h.di=115:=by rw [o,a];rfl
  have i:=avv a3.out c b t v qa K R h d p k.1 X Q n.out.sp (n.out.r.su a) (n.out.cm.L m).1 ((n.out.cm.L m).2.up (k.low n.out.de));generalize b.subst q c d=T at i g;obtain ⟨u,r⟩:=T;rw [m] at w;go_wp2_with (refine ir 123 rfl rfl 177 (.tmp 3) rfl _ rfl _ _ F underlying177 rfl (Dx _ _ _ _) ?_);refine i.mono ?_;rintro f s ⟨rfl,e⟩;have j:=hd (k.trans e);clear i e;cases r
  all_goals
   go_wp21;go_ret;exact ⟨by rw [g.out];rfl,_,by rw [g.out];exact j.out⟩
 .have g:Y (b.cz q c d h=({b with L:=trans d.la d.oo b.L},-1)):=by rw [Y,Dd.cz];simp [a]
  obtain ⟨m,r,u,C,E⟩:=n.out.r.rows a;have i:=alx b.L h.one h.two p.drew Q u C E;have a1:=F.cell (k:=14) rfl;have a2:=F.cell (k:=15) rfl;have S:=hd (And.intro m r);clear m r u C E;rw [o,a] at w;go_wp21;go_region_with (go_at_call 143;refine i.mono ?_;rintro f s ⟨rfl,e⟩;have j:=hd ((k.drewN 1).below e);have m:=j.1.cell (k:=9) rfl;have r:=j.1.cd 9 Q;clear e)
  all_goals
   go_wp21;go_ret;exact ⟨by rw [g.out];rfl,_,by rw [g.out,←S.1,←S.2];exact j.L _⟩
 have g:Y (b.cz q c d h=(b.wq c h.di,if (qm h.di b).size<=c.cf.space/\(ql h.di b).size<=c.cf.space then-1 else-4)):=by rw [Y,Dd.cz];obtain f|f|f|f|f|f:=a<;>simp [f]
 have i:=auw c b t v h.di p k.1 Q Q (by rw [o];obtain f|f|f|f|f|f:=a<;>rw [f]<;>decide);obtain ⟨m,r⟩:∃m,Y (m=decide ((qm h.di b).size<=c.cf.space/\(ql h.di b).size<=c.cf.space)):=⟨_,rfl⟩;rw [←r.out] at i;have u:Y (b.cz q c d h=(b.wq c h.di,if m=true then-1 else-4)):=by rw [Y,g.out,r.out];simp
 generalize b.wq c h.di=C at i u;clear r g;obtain a|a|a|a|a|a:=a<;>rw [o,a] at w i
 all_goals
  go_wp21;refine i.mono ?_;rintro f s ⟨rfl,e⟩;have j:=hd (k.trans e);clear i e;cases m
  all_goals
   go_wp21;go_ret;exact ⟨by rw [u.out];rfl,_,by rw [u.out];exact j.out⟩
