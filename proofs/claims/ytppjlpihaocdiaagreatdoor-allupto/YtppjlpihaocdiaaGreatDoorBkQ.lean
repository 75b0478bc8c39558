import Derived.Test.YtppjlpihaocdiaaGreatDoorBjQ
set_option linter.all false
set_option maxRecDepth 100000
set_option maxHeartbeats 16000000
namespace Go.Proofs.YtppjlpihaocdiaaGreatDoor
open Go.RowKit Go.Proofs.Tryz
variable{w u v:ae}{a b c d e:Nat}{s t:ag}{x y z:af}{p D:Int}{l:List af}{f:Bool}{g:List Nat}{h:Nat->Prop}{o:Option Addr}{r:List UInt8}{A:Nat->Bool}{B:Nat->Nat->Bool}{C:Nat->Nat->Prop}(i:Nat)(S T:ag)(V X:af)(j k m n:Nat)(Z:Int)(W:ae)
def vi(x y:Wh)(n:Bool)(l:Nat)(t:ag)(a p:Bool)(k:Nat)(o u:ag):Dc:=⟨l,x,y,n,0,t,⟨#[]⟩,a,p,k,o,u⟩
def abf:(prog.info? 177).map (fun a=>(a.zero,a.size,a.bytes))=some (some (.agg Kc.toArray),16,144):=qF
def LD(v:af):Sem af:=Instr.loadAt 177 v
def BD(ps:Array (Nat×af)):Sem af:=Instr.buildSlice 126 1 ps
def aj7:Instr.loadAt 177 V=LD V:=rfl
def aj1(a:Array (Nat×af)):Instr.buildSlice 126 1 a=BD a:=rfl
def atz(c:bd w a l)(b:l.length=16):(LD (ab a 0)).run prog w= .ok (.agg l.toArray) w:=
 run_loadAt_mid (P:=prog) w a 0 177 l _ c.km underlying177 rfl (by rw [b];kernel_rfl)
def atx(a:List af)(f:a.length=16):(BD #[(0, .agg a.toArray)]).run prog W= .ok (aa W.heap.size 1 1) (W.alloc (.cells a.toArray 177)):=by
 obtain ⟨h,d,e,b,j⟩:=info_parts abf;have i:=Great.fill_whole (s:=16) Q [Value.agg a.toArray] ((Array.range (1*16)).map ((Value.agg Kc.toArray).cells[·%(Value.agg Kc.toArray).cells.size]!))
  (fun g c=>by
   obtain rfl:g= .agg a.toArray:=qK c
   simp [Value.cells,f]) qD
 have:=run_buildSlice (P:=prog) W 126 177 1 #[(0, .agg a.toArray)] a.toArray h _ underlying126 d e (by rw [b];omega) (by rw [b];omega) (by
  rw [b];have g:(#[(0,Value.agg a.toArray)]:Array (Nat×af)).toList=(([Value.agg a.toArray].zipIdx 0).map fun c=>(c.2,c.1)):=rfl;rw [g];simpa [Value.cells] using i)
 exact this
def ae7(d:ag):∀(f b a:Nat),(∀c,b<=c->c<b+f->au d c<=57)->xo d f b a+1<=(a+1)*10^f
 |0,b,a,_=>by simp [xo]
 |f+1,b,a,h=>by
  rw [xo];have e:=ae7 d f (b+1) (10*a+(au d b-48)) fun c e g=>h c Q Q
  have g:=h b ah Q;have i:(10*a+(au d b-48)+1)*10^f<=(10*(a+1))*10^f:=Nat.mul_le_mul_right _ Q;rw [Nat.pow_succ];have j:(10*(a+1))*10^f=(a+1)*(10^f*10):=by rw [Nat.mul_comm 10 (a+1),Nat.mul_assoc,Nat.mul_comm 10]
  omega
def Ds.small{d:Wh}(c:Ds s a d b)(g:a<=s.size):(d.sort<=3/\d.num<=10000)/\a<=b:=by
 obtain⟨c,rfl,rfl⟩|⟨c,e,_,rfl,rfl⟩|⟨_,_,c,⟨e,rfl⟩|⟨e,h,rfl⟩⟩:=c
 .exact ⟨⟨qG,qG⟩,Q⟩
 .obtain ⟨f,_⟩:=ho (s:=s) (i:=a) (by rw [c];decide);have:a+1<=bw s (a+1):=Es s _ _ f;exact ⟨⟨ay 3,ey _⟩,Q⟩
 .exact ⟨⟨qG,qG⟩,Q⟩
 refine ⟨⟨(qG:1<=3), ?_⟩,Q⟩;have i:=ae7 (s.extract a b) (b-a) 0 0 fun f _ j=>by
  rw [ty s a b f Q];exact (abx (Qi s ju (s.size-a) a g (a+f) Q (by have:b=skipF s ju (s.size-a) a:=c;omega))).2
 have k:10^(b-a)<=10^4:=Nat.pow_le_pow_right Q Q;show xo _ _ _ _<=10000
 omega
def Lc.cm{d:Dc}{m:Wh}(e:Lc w u a b c d x y z m)(g:∀k,h k->k<w.heap.size)(o:d.fst.sort<=3/\d.fst.num<=10000)(p:d.snd.sort<=3/\d.snd.num<=10000)(q:d.di=115->m=⟨3,0,d.L⟩):Hs u h fun w=>xf w u.heap.size d x y z:=fun f i j=>
 ⟨⟨e.t1.1,e.t2.1,e.t3.1⟩,e.t1.hs g o f i j,e.t2.hs g p f i j,fun n=>by
  have l:=e.t3;rw [q n] at l;exact (l.hs g ⟨ay 3,ey _⟩ f i j).2.2 rfl⟩
def Ke{c:Dc}{g e h:ag}{d f:Bool}(i:c.di=a)(j:c.cn=0)(k:c.text=g)(l:c.all=d)(m:c.kr=f)(n:c.num=b)(o:c.one=e)(p:c.two=h):ig (vi c.fst c.snd c.neg a g d f b e h) x y z=ig c x y z:=by
 subst i k l m n o p;unfold ig vi;rw [j]
def ab6(b:ag):∀(f a:Nat),a<=jh b f a
 |0,a=>ah
 |f+1,a=>by
  rw [jh];split
  .exact bq (Nat.le_succ a) (ab6 b f (a+1))
  exact ah
def Lc.tree{f:Dc}{i:Wh}(e:Lc w u a b c f x y z i)(d:af)(g:Wh)(h:TI u w.heap.size b d g):Lc w (u.setCell (O b 10) d) a b c f x y d g:=
 e.bj ((bf.refl _ _).setCell 10 d) (e.row.put 10 (by show 10<16;omega) d) e.t1 e.t2 h
def Lc.re{e f:Dc}{g:Wh}(d:Lc w u a b c e x y z g)(h:ig e x y z=ig f x y z)(i:e.fst=f.fst)(j:e.snd=f.snd):Lc w u a b c f x y z g:=
 ⟨d.m,by rw [←h];exact d.row,d.gB,d.Iz,by rw [←i];exact d.t1,by rw [←j];exact d.t2,d.t3⟩
attribute [local go_sem↓] aj7 aj1 Go.wp_at_zero Go.wp_at_succ
def zh(x:Wh):Dc:=⟨0,x,gi,false,0,⟨#[]⟩,⟨#[]⟩,false,false,0,⟨#[]⟩,⟨#[]⟩⟩
def al9(bZ:ie->ie->Prop)(bY:∀(k:ae) (p bP:ie) (a5 V T:af),RE k i S p a5 V T->Cj p->bZ p bP->Calls prog 90 #[.pointer (some ⟨i,0,none⟩)] k (RQ i S a5 V T k bP)):Zo i S (Hk S bZ):=by
 intro k p bP a5 V T c bM cA
 obtain ⟨a,d,X,U,j,b,f⟩:=cA;have K:=hd bY;have m:=hd c;have aR:=hd bM;have D:=hd b;have bD:=hd f;have bE:i<k.heap.size:=c.lt;have cF:=c.s4;have b0:=aih i S p.H a.fst X k c.rc b.a;have H:=b.le1;have c0:=b.le2;have a1:=b.lt;have bW:=hd fun (c3:Nat) (a:Nat) (k:ae) (h:Rc k i S c3)=>Pg i S c3 a k h
 clear c bM b f bY;go_in;go_wp21;refine b0.mono ?_;rintro e aF ⟨f,rfl,b,g⟩;have c:=hd b;have o:=hd g;clear b0 b g;go_upto_region 1 with (first
  |(refine gm 2 rfl rfl 177 rfl _ Td ?_;intro L bF b bL;have q:=hd b;have g:=hd bL;clear b bL)
  |(refine hw rfl 177 (.tmp 2) (.tmp 10) rfl _ rfl (ig (zh a.fst) f (.pointer none) (.pointer none)) rfl _ q.out rfl (Dx _ _ _ _) (Oe _ _ _ _ ⟨o.out.1,rfl,rfl⟩) ?_;intro w3 b r;have s:=hd b;have n:=hd r;clear b r))
 have b:Y (Lc k w3 i aF.heap.size X (zh a.fst) f (.pointer none) (.pointer none) gi):=by
  have r:TI w3 k.heap.size aF.heap.size f a.fst:=(TI.of o.out ah (.inr ah)).keep (by rw [n.out.size];exact g.out.size) fun C _ aW bN=>(n.out.block C bN).trans (g.out.block C aW)
  exact ⟨Kw (c.out.below g.out) n.out c.out.size bE,s.out,c.out.size,bE,r,TI.none (show (0:Nat)≠3 from qG),TI.none qG⟩
 clear c o n s g q bF;generalize aF.heap.size=c at b ⊢;obtain ⟨aQ,b5⟩:∃aQ,Y (decide (pk S X=((44:Nat):Int))=aQ):=⟨_,rfl⟩;have g:=bW.out X 44 w3 (b.m.rc m.out.rc H);rw [b5.out] at g;go_wp21;refine g.mono ?_;rintro e w4 ⟨rfl,c4,rfl⟩;have aH:=hd (b.go ((Mk.ee (b.m.rc m.out.rc H)).drewN c4));clear g b;generalize w3.drewN c4=w4 at aH ⊢;go_upto_if 13 with fail
 go_cut [] (fun a0=>∃g,Y (Lc k a0 i c U {zh a.fst with snd:=a.snd} f g (.pointer none) gi))
 case first=>
  as_aux_lemma=>
   obtain⟨q,s⟩|⟨q,E,rfl⟩:=D.out.b
   .have w:aQ=true:=by rw [←b5.out,q];rfl
    subst w;obtain ⟨l,_⟩:=ho (s:=S) (i:=X) (by rw [q];decide);obtain ⟨A,B,K,_,_⟩:=aH.out.m.rc m.out.rc H;have b:=hd (aH.out.go ((Mk.ee (aH.out.m.rc m.out.rc H)).set (v:=(X:Int)+1) (X+1) Q));have b0:=aih i S (X+1) a.snd U _ (b.m.rc m.out.rc l) s;clear q s;go_wp21;refine b0.mono ?_;rintro e bS ⟨g,rfl,r,o⟩;have n:=hd (b.go r);have t:=hd (TI.of o (B:=k.heap.size) (g:=c) b.m.size (.inl b.gl));clear b0 r o b aH A B K;have y:=hd (show∀bQ∈ [I (a.snd.sort:Int), I (a.snd.num:Int),g],bQ.oneCell'=true from fun bQ x=>by
     simp only [vc,za,or_false] at x;obtain rfl|rfl|rfl:=x
     .rfl
     .rfl
     exact t.out.1)
    have z:=hd (show (ig (zh a.fst) f (.pointer none) (.pointer none)).take 4++ [I (a.snd.sort:Int), I (a.snd.num:Int),g]++(ig (zh a.fst) f (.pointer none) (.pointer none)).drop (4+3)=ig {zh a.fst with snd:=a.snd} f g (.pointer none) from rfl);go_wp2_with (refine Av rfl 175 (.tmp 23) (.tmp 22) rfl c 4 rfl [I (a.snd.sort:Int), I (a.snd.num:Int),g] rfl (ig (zh a.fst) f (.pointer none) (.pointer none)) (ig {zh a.fst with snd:=a.snd} f g (.pointer none)) n.out.row (by show 4+3<=16;omega) z.out (au2 _ _ _) y.out ?_;intro b9 u v;have o:=hd (n.out.bj (y':=gi) v u n.out.t1 t.out n.out.t3);clear u v);go_meet;exact ⟨g,o.out⟩
   have w:aQ=false:=by rw [←b5.out];exact wu q
   subst w;have b:Y (Lc k w4 i c U {zh a.fst with snd:=a.snd} f (.pointer none) (.pointer none) gi):=by rw [Y,E];exact aH.out
   go_wp21;go_meet;exact ⟨_,b⟩
 obtain ⟨g,b⟩:=hcut;clear aH b5;have aI:=Qj i S dh U wc (b.m.rc m.out.rc c0) qG;obtain ⟨s1,s2⟩:=Qzd S dh (S.size-U) U c0;have s2:skip S dh U<=S.size:=s2;have qa:=hd D.out.n;obtain ⟨a4,q⟩:∃a4,skip S dh U=a4:=⟨_,rfl⟩;rw [q] at aI s2 qa;clear q s1;go_wp21;refine aI.mono ?_;rintro e bS ⟨rfl,r⟩;have n:=hd (b.go (Mk.mv r));clear aI r b;obtain ⟨aZ,b6⟩:∃aQ,Y (decide (pk S a4=((33:Nat):Int))=aQ):=⟨_,rfl⟩;have A:=bW.out a4 33 bS (n.out.m.rc m.out.rc s2);rw [b6.out] at A;go_wp21;refine A.mono ?_;rintro e b9 ⟨rfl,c5,rfl⟩;have o:=hd (n.out.go ((Mk.ee (n.out.m.rc m.out.rc s2)).drewN c5));clear A n;generalize bS.drewN c5=b9 at o ⊢;have n:=o.out.cell (k:=7) rfl;have u7:=o.out.cd 7 Q;have aJ:Y (Lc k (b9.setCell (O c 7) (.bool aZ)) i c a4 {zh a.fst with snd:=a.snd,neg:=aZ} f g (.pointer none) gi):=o.out.put 7 Q _ rfl rfl rfl;have b:=aJ.cell (k:=7) rfl;go_upto_if 30 with fail
 generalize b9.setCell (O c 7) (.bool aZ)=cK at aJ b ⊢;clear n u7 o b;go_cut [] (fun a0=>Y (Lc k a0 i c j {zh a.fst with snd:=a.snd,neg:=a.neg} f g (.pointer none) gi))
 case first=>
  as_aux_lemma=>
   obtain⟨b,n,o⟩|⟨b,n,o⟩:=qa
   .have w:aZ=true:=by rw [←b6.out,b];rfl
    subst w;obtain ⟨l,_⟩:=ho (s:=S) (i:=a4) (by rw [b];decide);obtain ⟨A,B,K,_,_⟩:=aJ.m.rc m.out.rc s2;have q:=hd (aJ.go ((Mk.ee (aJ.m.rc m.out.rc s2)).set (v:=(a4:Int)+1) (a4+1) Q));have aI:=Qj i S dh (a4+1) _ (q.out.m.rc m.out.rc l) qG;rw [←o] at aI;have B:=hd n;clear b n o;go_wp21;refine aI.mono ?_;rintro e t ⟨rfl,r⟩;have s:=hd (q.out.go (Mk.mv r));clear aI r;go_wp21;go_meet;rw [B.out];exact s.out
   have w:aZ=false:=by rw [←b6.out];exact wu b
   subst w;have B:=hd n;have q:=hd o;clear b n o;go_wp21;go_meet;rw [B.out,q.out];exact aJ
 have aG:=hd hcut;clear hcut aJ qa b6;obtain ⟨A,B,K,_,_⟩:=aG.out.out.m.rc m.out.rc (Nat.le_of_lt a1);have aX:=aG.out.out.cell (k:=0) rfl;have u0:=aG.out.out.cd 0 Q;have b7:=oz S j a1;have c8:=ms S j;have bO:(j:Int)<(S.size:Int):=Q
 have bG:Y (Lc k (wc.setCell (O c 0) (.int .u8 (au S j:Int))) i c j {zh a.fst with snd:=a.snd,neg:=a.neg,di:=au S j} f g (.pointer none) gi):=aG.out.out.put 0 Q _ rfl rfl rfl;go_upto_region 10 with fail
 go_cut [] (fun a0=>∃a6,a0=(wc.setCell (O c 0) (.int .u8 (au S j:Int))).drewN a6)
 case first=>
  as_aux_lemma=>
   go_region
   all_goals
    go_wp21;go_meet;exact ⟨1,rfl⟩
 obtain ⟨a6,rfl⟩:=hcut;have b:=hd (bG.go ((Mk.ee (bG.m.rc m.out.rc (Nat.le_of_lt a1))).drewN a6));clear aG bG A B K aX u0 b7 bO;generalize ((wc.setCell (O c 0) (.int .u8 (au S j:Int))).drewN a6)=bR at b ⊢;obtain ⟨A,B,K,_,_⟩:=b.out.m.rc m.out.rc (Nat.le_of_lt a1);have n:Y (Lc k (bR.setCell (O i 1) (I ((j:Int)+1))) i c (j+1) (vi a.fst a.snd a.neg (au S j) ⟨#[]⟩ false false 0 ⟨#[]⟩ ⟨#[]⟩) f g (.pointer none) gi):=b.out.go ((Mk.ee (b.out.m.rc m.out.rc (Nat.le_of_lt a1))).set (v:=(j:Int)+1) (j+1) Q);have aX:(bR.setCell (O i 1) (I ((j:Int)+1))).cell? (O c 0)=some (.int .u8 (au S j:Int)):=n.cell (k:=0) rfl;go_upto_block 0 with fail
 generalize bR.setCell (O i 1) (I ((j:Int)+1))=aF at n aX ⊢;clear b A B K aX;have b:=D.out.l;have x:=D.out.body;have o:=D.out.g;have aS:=D.out.lj;obtain ⟨q,aG⟩:∃q,Y (au S j=q):=⟨_,rfl⟩;rw [aG.out] at n b c8 ⊢;unfold Az at x;rw [b] at x;have a7:=hd b;have M:=hd o;have t:Y (Lc k aF i c (j+1) (vi a.fst a.snd a.neg a.di ⟨#[]⟩ false false 0 ⟨#[]⟩ ⟨#[]⟩) f g (.pointer none) gi):=by rw [Y,b];exact n
 clear n;clear b o;go_cut [] (fun a0=>∃Z bT,Y (Lc k a0 i c d a f g Z bT)/\Y (q=115->bT=⟨3,0,a.L⟩))
 case first=>
  by_cases aO:q=97\/q=105\/q=99
  .rw [G aO] at x
   as_aux_lemma=>
    obtain ⟨b3,E,v,R,aA,aB,aC,H⟩:=x;have qa:Y (q=115->gi=⟨3,0,a.L⟩):=fun e=>Q
    have a2:Y (ig (vi a.fst a.snd a.neg a.di (S.extract (j+1+1) d) false false 0 ⟨#[]⟩ ⟨#[]⟩) f g (.pointer none)=ig a f g (.pointer none)):=Ke rfl M.out (v▸E) R aA aB aC H;rw [←v] at b3;have z:Y (d=jh S (S.size-(j+1)) (j+1)):=v;clear E v R aA aB aC H a7 M;obtain ⟨A,B,K,_,_⟩:=t.m.rc m.out.rc a1;obtain rfl|rfl|rfl:=aO
    all_goals
     go_wp21;go_loopg [] (S.size+1) (fun C wr=>∃b o,Y (Lc k wr i c b (vi a.fst a.snd a.neg a.di ⟨#[]⟩ false false 0 ⟨#[]⟩ ⟨#[]⟩) f g (.pointer none) gi)/\j+1<=b/\b<=d/\Y (d=jh S o b)/\S.size<=o+b/\S.size<C+b)
     case atStart=>exact ⟨j+1,_,t,ah,Q,z,Q,Q⟩
     obtain ⟨b,o,n,a8,P,aR,bM,c9⟩:=hrel;clear t z A B K;obtain ⟨W,bL,a3,_,_⟩:=n.out.m.rc m.out.rc (bq P aS);by_cases s:b<S.size/\au S b≠10
     .obtain ⟨l,u⟩:=s;have b7:=oz S b l;have aW:(b:Int)<(S.size:Int):=Q
      have r:((au S b:Int)==10)=false:=hh Q;have b1:Y (d=jh S (o-1) (b+1)):=by
       rw [Y,←On S (o-1) b l u,show o-1+1=o from Q];exact aR.out
      have y:b+1<=d:=by rw [b1.out];exact ab6 S _ _
      go_wp21;go_quiet (fail);go_wp21;go_roundg (gk-1)
      case rel=>exact ⟨b+1,o-1,n.out.go (((Mk.ee (n.out.m.rc m.out.rc (bq P aS))).drewN _).set (b+1) Q),Q,y,b1,Q,Q⟩
      omega
     have bA:Y (d=b):=aR.out.trans (Kh S o b s);obtain rfl:=bA;have aY:wr.cell? (O c 9)=some (.string ⟨#[]⟩):=n.out.cell (k:=9) rfl;have u9:=n.out.cd 9 Q;have y:(((au S d:Int)==10)=true/\d<S.size)\/S.size=d:=by
      obtain e|e:=hb d S.size
      .exact .inl ⟨by have:au S d=10:=Classical.not_not.1 fun b=>s ⟨e,b⟩;simp [this],e⟩
      exact .inr Q
     have u:Y (∀a6,Lc k ((wr.drewN a6).setCell (O c 9) (.string (S.extract (j+1+1) d))) i c d a f g (.pointer none) gi):=fun a6=>
      have F:Lc k ((wr.drewN a6).setCell (O c 9) (.string (S.extract (j+1+1) d))) i c d (vi a.fst a.snd a.neg a.di (S.extract (j+1+1) d) false false 0 ⟨#[]⟩ ⟨#[]⟩) f g (.pointer none) gi:=(n.out.go ((Mk.ee (n.out.m.rc m.out.rc aS)).drewN a6)).put 9 Q _ rfl rfl rfl
      F.re a2 rfl rfl
     clear s aR a2 n;obtain⟨r,l⟩|l:=y
     .have b7:=oz S d l;have aW:(d:Int)<(S.size:Int):=Q
      go_wp21;go_quiet (fail);have bN:(j:Int)+1+1<=(d:Int):=Q
      have bO:(d:Int)<=(S.size:Int):=Q
      go_wp21;go_region
      all_goals
       go_wp21;go_meet;exact ⟨.pointer none,gi,u _,qa⟩
     have aW:decide ((d:Int)<(S.size:Int))=false:=wu Q;have a9:decide (d<S.size)=false:=wu Q;clear l;go_wp21;go_quiet (fail);have bN:(j:Int)+1+1<=(d:Int):=Q
     have bO:(d:Int)<=(S.size:Int):=Q
     go_wp21;go_region
     all_goals
      go_wp21;go_meet;exact ⟨.pointer none,gi,u _,qa⟩
  rw [N aO] at x;by_cases aV:q=98\/q=116
  .rw [G aV] at x
   as_aux_lemma=>
    obtain ⟨E,v,R,aA,aB,aC,H⟩:=x;have qa:Y (q=115->gi=⟨3,0,a.L⟩):=fun e=>Q
    have a2:Y (ig (vi a.fst a.snd a.neg a.di a.text false false 0 ⟨#[]⟩ ⟨#[]⟩) f g (.pointer none)=ig a f g (.pointer none)):=Ke rfl M.out rfl R aA aB aC H;have W:=Ra i S az (j+1) aF (t.m.rc m.out.rc a1) qG;rw [←E,←v] at W;clear E v R aA aB aC H a7 M aO;obtain rfl|rfl:=aV
    all_goals
     go_wp21;refine W.mono ?_;rintro e L ⟨rfl,a9⟩;have n:=hd (t.go (Mk.mv a9));have aY:L.cell? (O c 9)=some (.string ⟨#[]⟩):=n.out.cell (k:=9) rfl;have u9:=n.out.cd 9 Q;have u:Y (Lc k (L.setCell (O c 9) (.string a.text)) i c d a f g (.pointer none) gi):=
      have F:Lc k (L.setCell (O c 9) (.string a.text)) i c d (vi a.fst a.snd a.neg a.di a.text false false 0 ⟨#[]⟩ ⟨#[]⟩) f g (.pointer none) gi:=n.out.put 9 Q _ rfl rfl rfl
      F.re a2 rfl rfl
     clear a9 n t a2;go_wp21;go_meet;exact ⟨.pointer none,gi,u,qa⟩
  rw [N aV] at x;by_cases aP:q=115
  .rw [G aP] at x
   as_aux_lemma=>
    obtain ⟨s1,s2,s3,s4,s5,aK,a3,aD,b4,aL⟩:=x;have a2:Y (∀Z,ig (vi a.fst a.snd a.neg a.di a.text a.all a.kr a.num ⟨#[]⟩ ⟨#[]⟩) f g Z=ig a f g Z):=fun Z=>Ke rfl M.out rfl rfl rfl rfl b4 aL
    have aE:=ajc i S (j+1) aF (t.m.rc m.out.rc a1) s1 s2 s3;rw [←s4] at aE s3;have aM:=hd s3;obtain ⟨r,a8⟩:∃b,bw S (j+1+1)=b:=⟨_,rfl⟩;rw [a8] at aE s2 s5 aK a3 aD;obtain ⟨s,P⟩:∃b,bw S (r+1)=b:=⟨_,rfl⟩;rw [P] at s5 aK a3 aD;have aN:=hd fun (z:ae) (h:Rc z i S (r+1))=>Ql i S (r+1) z h (by rw [P];exact s5)
    rw [P,←aK] at aN;have aU:=hd fun (z:ae) (h:Rc z i S (s+1))=>Ra i S zj (s+1) z h qG
    rw [←a3] at aU;have aT:∀C,C<(S.extract (s+1) d).size->bn zj (au (S.extract (s+1) d) C)=true:=fun C c2=>by
     have b8:(S.extract (s+1) d).size=d-(s+1):=by rw [lw,yi aS]
     rw [ty S (s+1) d C Q];exact Qi S zj (S.size-(s+1)) (s+1) s5 _ Q (by have:d=skipF S zj (S.size-(s+1)) (s+1):=a3;omega)
    have b2:(S.extract (s+1) d).size=d-(s+1):=by rw [lw,yi aS]
    rw [←b2] at aD;generalize S.extract (s+1) d=o at*
    have bI:=hd aT;have bH:=hd aD;have bV:o.size<=400:=Q
    clear s1 s3 s4 aK a3 aD b4 aL a8 P aT b2 a7 M aO aV;subst aP;go_wp21;refine aE.mono ?_;rintro e L ⟨c7,rfl,a9,a3⟩;obtain ⟨aK,rfl⟩:=a3.1;have n:=hd (t.go a9);have aD:Y (TI L k.heap.size c (ab aK 0) ⟨3,0,a.L⟩):=TI.of ⟨rfl,fun _=>⟨aM.out,a3⟩⟩ t.m.size (.inl t.gl);have aL:=hd (n.out.tree _ _ aD);have l10:L.cell? (O c 10)=some (.pointer none):=n.out.cell (k:=10) rfl;have u10:=n.out.cd 10 Q;have aT:=aN.out _ (aL.out.m.rc m.out.rc s2);clear aE a9 a3 t aD aM;go_wp21;refine aT.mono ?_;rintro e w3 ⟨rfl,aD⟩;have a3:=hd (aL.out.go (Mk.mv aD));clear aT aD n aL l10 u10;have aY:w3.cell? (O c 9)=some (.string ⟨#[]⟩):=a3.out.cell (k:=9) rfl;have u9:=a3.out.cd 9 Q;have aM:Y (Lc k (w3.setCell (O c 9) (.string a.text)) i c (s+1) (vi a.fst a.snd a.neg a.di a.text false false 0 ⟨#[]⟩ ⟨#[]⟩) f g (ab aK 0) ⟨3,0,a.L⟩):=a3.out.put 9 Q _ rfl rfl rfl;have W:=aU.out _ (aM.m.rc m.out.rc s5);go_wp21;refine W.mono ?_;rintro e w4 ⟨rfl,b2⟩;have aT:=hd (aM.go (Mk.mv b2));clear W b2 a3 aM aY u9 aN aU;go_wp21;go_loopg [6] (o.size+1) (fun C bU wr=>∃(b:Nat) (W aE:Bool) (aD:Nat),bU= I (b:Int)/\Y (Lc k wr i c d (vi a.fst a.snd a.neg a.di a.text W aE aD ⟨#[]⟩ ⟨#[]⟩) f g (ab aK 0) ⟨3,0,a.L⟩)/\b<=o.size/\Y ((a.all,a.kr,a.num)=Ef o (o.size-b) b (W,aE,aD))/\o.size<C+b)
    case atStart=>exact ⟨0,false,false,0,rfl,aT.out,ey _,bH.out,Q⟩
    obtain ⟨b,W,aE,aD,rfl,n,c6,aU,c9⟩:=hrel;clear aT bH;by_cases l:b<o.size
    .have b7:=oz o b l;have aW:(b:Int)<(o.size:Int):=Q
     have bX:=ms o b;obtain ⟨gk,rfl⟩:∃c,gk=c+1:=⟨gk-1,Q⟩;have y:=aU.out;rw [show o.size-b=(o.size-(b+1))+1 from Q,Ef] at y;have bJ:au o b=103\/au o b=112\/(49<=au o b/\au o b<=57):=by
      have:=bI.out b l;simp only [bn,zj,List.any_cons,List.any_nil,uz,ra,Bool.or_false] at this;obtain h|h|h|h|h|h|h|h|h|h|h:=this<;>rw [←h]<;>decide
     obtain F|F|⟨F,c1⟩:=bJ
     .rw [G F] at y;have aN:=hd y;have r:((au o b:Int)==103)=true:=by simp [F]
      have b4:wr.cell? (O c 11)=some (.bool W):=n.out.cell (k:=11) rfl;have u11:=n.out.cd 11 Q;have u:Y (Lc k (wr.setCell (O c 11) (.bool true)) i c d (vi a.fst a.snd a.neg a.di a.text true aE aD ⟨#[]⟩ ⟨#[]⟩) f g (ab aK 0) ⟨3,0,a.L⟩):=n.out.put 11 Q _ rfl rfl rfl;clear y F aU n;go_wp21;go_roundg gk
      case rel=>exact ⟨b+1,true,aE,aD,rfl,u,l,aN.out,Q⟩
      omega
     .rw [N Q,G F] at y;have aN:=hd y;have r:((au o b:Int)==103)=false:=hh Q;have bK:((au o b:Int)==112)=true:=by simp [F]
      have b4:wr.cell? (O c 12)=some (.bool aE):=n.out.cell (k:=12) rfl;have u11:=n.out.cd 12 Q;have u:Y (Lc k (wr.setCell (O c 12) (.bool true)) i c d (vi a.fst a.snd a.neg a.di a.text W true aD ⟨#[]⟩ ⟨#[]⟩) f g (ab aK 0) ⟨3,0,a.L⟩):=n.out.put 12 Q _ rfl rfl rfl;clear y F aU n;go_wp21;go_roundg gk
      case rel=>exact ⟨b+1,W,true,aD,rfl,u,l,aN.out,Q⟩
      omega
     rw [N Q,N Q] at y;have aN:=hd y;have r:((au o b:Int)==103)=false:=hh Q;have bK:((au o b:Int)==112)=false:=hh Q;have w:((au o b-48:Nat):Int)=(au o b:Int)-48:=Q
     have b4:wr.cell? (O c 13)=some (I (aD:Int)):=n.out.cell (k:=13) rfl;have u11:=n.out.cd 13 Q;have u:Y (Lc k (wr.setCell (O c 13) (I ((au o b:Int)-48))) i c d (vi a.fst a.snd a.neg a.di a.text W aE (au o b-48) ⟨#[]⟩ ⟨#[]⟩) f g (ab aK 0) ⟨3,0,a.L⟩):=by
      rw [Y,←w];exact n.out.put 13 Q _ rfl rfl rfl
     clear y aU n w;go_wp21;go_roundg gk
     case rel=>exact ⟨b+1,W,aE,au o b-48,rfl,u,l,aN.out,Q⟩
     omega
    have u:Y (Lc k wr i c d a f g (ab aK 0) ⟨3,0,a.L⟩):=by
     have y:=aU.out;rw [show o.size-b=0 from Q,Ef] at y;injection y with w aN;injection aN with aN b4;have:=n.out;rw [←w,←aN,←b4] at this;exact this.re (a2 _) rfl rfl
    have aW:¬(b:Int)<(o.size:Int):=Q
    clear aU n a2;go_wp21;go_meet;exact ⟨_,⟨3,0,a.L⟩,u,fun _=>rfl⟩
  rw [N aP] at x;by_cases n:q=121
  .rw [G n] at x
   as_aux_lemma=>
    obtain ⟨c6,aD,aE,aK,bU,o,bV,aU,c7,c1,w,aN⟩:=x;have qa:Y (q=115->gi=⟨3,0,a.L⟩):=fun e=>cb e aP
    have a2:Y (ig (vi a.fst a.snd a.neg a.di ⟨#[]⟩ false false 0 a.one a.two) f g (.pointer none)=ig a f g (.pointer none)):=Ke rfl M.out c7 c1 w aN rfl rfl;obtain ⟨r,a8⟩:∃b,bw S (j+1+1)=b:=⟨_,rfl⟩;rw [a8] at aD aE aK bU o bV aU;obtain ⟨s,P⟩:∃b,bw S (r+1)=b:=⟨_,rfl⟩;rw [P] at aE aK o aU;have bH:=hd fun (z:ae) (h:Rc z i S (j+1+1))=>Ql i S (j+1+1) z h (by rw [a8];exact aD)
    have bI:=hd fun (z:ae) (h:Rc z i S (r+1))=>Ql i S (r+1) z h (by rw [P];exact aE)
    rw [a8] at bH;rw [P] at bI;have b8:∀W bX,(S.extract W bX).size<=400:=fun W bX=>by rw [lw];omega
    have bJ:=hd fun (z:ae)=>agb (S.extract (j+1+1) r) z (b8 _ _) bV
    have bK:=hd fun (z:ae)=>agb (S.extract (r+1) s) z (b8 _ _) aU
    rw [←bU] at bJ;rw [←o] at bK;generalize S.extract (j+1+1) r=cC at*
    generalize S.extract (r+1) s=cE at*
    have bA:=hd aK;clear aK bU o bV aU c7 c1 w aN a8 P b8 a7 M aO aV aP;obtain ⟨A,B,K,_,_⟩:=t.m.rc m.out.rc a1;have o:=hd (t.go ((Mk.ee (t.m.rc m.out.rc a1)).set (v:=(j:Int)+1+1) (j+1+1) Q));have b4:=bH.out _ (o.out.m.rc m.out.rc c6);subst n;go_wp21;refine b4.mono ?_;rintro e L ⟨rfl,a9⟩;have aL:=hd (o.out.go (Mk.mv a9));clear b4 a9 o t A B K bH;have P:=bJ.out L;go_wp21;refine P.mono ?_;rintro e w3 ⟨rfl,a8⟩;have a3:=hd (aL.out.go ((Mk.ee (aL.out.m.rc m.out.rc aD)).below a8));clear P a8 aL bJ;have aY:w3.cell? (O c 14)=some (.string ⟨#[]⟩):=a3.out.cell (k:=14) rfl;have u9:=a3.out.cd 14 Q;have aM:Y (Lc k (w3.setCell (O c 14) (.string a.one)) i c (r+1) (vi a.fst a.snd a.neg a.di ⟨#[]⟩ false false 0 a.one ⟨#[]⟩) f g (.pointer none) gi):=a3.out.put 14 Q _ rfl rfl rfl;have a9:=bI.out _ (aM.m.rc m.out.rc aD);go_wp21;refine a9.mono ?_;rintro e w4 ⟨rfl,b2⟩;have aT:=hd (aM.go (Mk.mv b2));clear a9 b2 a3 aM bI aY u9;have a3:=bK.out w4;go_wp21;refine a3.mono ?_;rintro e aL ⟨rfl,aM⟩;have o:=hd (aT.out.go ((Mk.ee (aT.out.m.rc m.out.rc aE)).below aM));clear a3 aM aT bK;have aY:aL.cell? (O c 15)=some (.string ⟨#[]⟩):=o.out.cell (k:=15) rfl;have u9:=o.out.cd 15 Q;have u:Y (Lc k (aL.setCell (O c 15) (.string a.two)) i c d a f g (.pointer none) gi):=by
     have F:Lc k (aL.setCell (O c 15) (.string a.two)) i c (s+1) (vi a.fst a.snd a.neg a.di ⟨#[]⟩ false false 0 a.one a.two) f g (.pointer none) gi:=o.out.put 15 Q _ rfl rfl rfl;rw [Y,bA.out];exact F.re a2 rfl rfl
    go_wp21;go_meet;exact ⟨.pointer none,gi,u,qa⟩
  rw [N n] at x
  as_aux_lemma=>
   obtain ⟨v,E,R,aA,aB,aC,H⟩:=x;have qa:Y (q=115->gi=⟨3,0,a.L⟩):=fun e=>cb e aP
   have u:Y (Lc k aF i c d a f g (.pointer none) gi):=by
    rw [Y,v];exact t.re (Ke rfl M.out E R aA aB aC H) rfl rfl
   have w:((q:Int)==97)=false:=hh Q;have aN:((q:Int)==105)=false:=hh Q;have b4:((q:Int)==99)=false:=hh Q;have P:((q:Int)==98)=false:=hh Q;have a8:((q:Int)==116)=false:=hh Q;have a9:((q:Int)==115)=false:=hh Q;have a3:((q:Int)==121)=false:=hh Q;clear E v R aA aB aC H a7 M aO aV aP n t;go_wp21;go_meet;exact ⟨.pointer none,gi,u,qa⟩
 obtain ⟨Z,bT,n,z⟩:=hcut;clear t x;have u:Y (RE wc i S {p with H:=d} a5 V T):=m.out.mv n.out.m aS;have aB:Y (RF i a5 V T a5 V T k wc):=RF.mv n.out.m;obtain ⟨xs,y,P⟩:=u.ls;obtain ⟨cG,o,_⟩:=m.out.ls;have F:Y (c<wc.heap.size/\c≠i/\a5.ownBlock≠some c):=⟨n.out.gl,by have:=n.out.gB;omega,fun e=>by have:=(o.lt c e).2;have:=n.out.gB;omega⟩;have aC:Y (Hs wc (Xo i a5 V T) fun k=>xf k wc.heap.size a f g Z):=n.out.cm (fun C c2=>by
  obtain e|e|e|e:=c2
  .rw [e];exact bE
  .exact (o.lt C e).2
  .exact (m.out.ns.lt C e).2
  .exact (m.out.gs.lt C e).2) (D.out.a.small m.out.le).1 (by
  obtain⟨e,h⟩|⟨_,h,_⟩:=D.out.b
  .exact (h.small (by obtain ⟨b,_⟩:=ho (s:=S) (i:=X) (by rw [e];decide);exact b)).1
  rw [h];exact ⟨qG,qG⟩) (by rw [a7.out];exact z.out)
 have a3:=hd y;have aL:=hd P;have a2:=hd n.out.row;have aM:=hd (Oe a f g Z ⟨n.out.t1.1,n.out.t2.1,n.out.t3.1⟩);have cE:p.cs.length<=400:=by have:=aR.out.1;have:=m.out.le;omega
 obtain ⟨W,b3,s⟩:=yq y;have s:a5= .slice W p.cs.length b3:=s;subst s;clear y o P z;have a9:=u.row.cell (k:=2) rfl;have b4:=u.row.frozen (k:=2) (by show 2<5;omega);have bH:=u.lt;have bI:=atz (w:=wc.drew) (a2.out.cw rfl) rfl;have bJ:=atx wc.drew (ig a f g Z) rfl;obtain ⟨c9,bK,bU,bV,bF⟩:=info_parts abf;go_upto_region 41 with fail
 go_cut [] (fun a0=>∃z y,Y (RE a0 i S {p with H:=d,cs:=p.cs++ [a]} (aa z (p.cs.length+1) y) V T)/\Y (RF i (.slice W p.cs.length b3) V T (aa z (p.cs.length+1) y) V T k a0)/\a0.cell? (O c 0)=some (.int .u8 (a.di:Int)))
 case first=>
  as_aux_lemma=>
   go_region_law
    ((refine step_append_lies _ (by rfl) _ _ _ (by rfl) (i+1) 177 c9 _ 16 144 underlying126 bK bU bV bF (by rfl) Q (Value.slice W p.cs.length b3) p.cs.length xs (by rfl) ((a3.out.alloc _).drew)
       (O wc.heap.size 0) 1 1 (ig a f g Z) (by rfl) (by rfl) (World.news_of_block (cs:=(ig a f g Z).toArray) (t:=177) (fr:=(0,0)) (heap_alloc_new wc _)) aM.out
       Q qH Q qB (wc.heap.size+1) qD ?_;intro z y a8 aA P aN l;have o:=u.cmd (Gw.drew P) aL.out a3.out.1 aC aA aN;have aP:=(ac 2 o.1).trans a9;have aT:=(ad 2 o.1).trans b4;have E:=hd o.2.1;have v:=hd (aB.trans o.2.2);have aO:=hd ((Gw.drew P).block c F.1 F.2.2);clear o aA P aN l))
   all_goals
    go_wp21;go_meet;exact ⟨z,y,E.out,v.out,((bz (((bf.refl i a8).setCell 2 (aa z (p.cs.length+1) y)).block c F.2.1)).trans (bz aO.out)).trans (a2.out.cell (k:=0) rfl)⟩
 obtain ⟨z,y,E,v,aX⟩:=hcut;clear u aB a3 aL aC a2 aM n a9 b4 bI bJ bH F;obtain⟨cH,rfl⟩|⟨R,o,aN,aA,b8,rfl⟩:=bD.out
 .have r:((a.di:Int)==123)=false:=hh Q;clear a7 D M bD;go_wp21;go_returns;exact ⟨rfl,_,V,T,E.out,v.out⟩
 have r:((a.di:Int)==123)=true:=by rw [R];rfl
 have a8:Cj {p with H:=d,cs:=p.cs++ [a]}:=by
  obtain ⟨aP,aT,aO⟩:=aR.out;have c6:=(D.out.a.small m.out.le).2;have aD:X<=U:=by
   obtain⟨e,h⟩|⟨_,_,h⟩:=D.out.b
   .have:=(h.small (by obtain ⟨b,_⟩:=ho (s:=S) (i:=X) (by rw [e];decide);exact b)).2;omega
   omega
  have aE:U<=j:=by
   have cC:=Cd S dh U;obtain⟨_,_,h⟩|⟨_,_,h⟩:=D.out.n
   .have:=Cd S dh (skip S dh U+1);omega
   omega
  have aK:d=j+1:=by
   have P:=D.out.body;unfold Az at P;rw [R,N qG,N qG,N qG,N qG] at P;exact P.1
  exact ⟨by show (p.cs++ [a]).length<=d;simp;omega,by show p.ns.length<=d;omega,aO⟩
 have aO:=K.out wc {p with H:=d,cs:=p.cs++ [a]} o _ V T E.out a8 aN;clear a8 R aN a7 D M bD;go_wp21;refine aO.mono ?_;rintro e L ⟨rfl,aP,aT,aU,R,a8⟩;have P:=hd R;have b1:=hd (v.out.trans a8);clear aO R a8 E v aX;obtain ⟨A,B,K,_,_⟩:=P.out.rc;have v:Y (Mk i L (L.setCell (O i 1) (I ((o.H:Int)+1))) (o.H+1)):=(Mk.ee P.out.rc).set (o.H+1) Q;have E:Y (RE (L.setCell (O i 1) (I ((o.H:Int)+1))) i S {o with H:=o.H+1} aP aT aU):=P.out.mv v aA;have aO:=hd (b1.trans (RF.mv v));obtain ⟨c7,bA,bQ,s,cI,cJ,aV,aY⟩:=E.xt p.cs.length o.cs.length b8;have s:aP= aa c7 o.cs.length bA:=s;subst s;have R:=hd aV;have b2:=hd (aO.out.trans aY);have a9:=E.row.cell (k:=2) rfl;have cC:(p.cs.length:Int)<(o.cs.length:Int):=Q
 have a8:=hd ((Mk.ee R.out.rc).drewN 1);have bX:=hd (R.out.mv a8.out aA);have c1:=hd (b2.out.trans (RF.mv a8.out));clear aV aY P b1 E aO v R b2 a8;go_wp21;go_region
 all_goals
  go_wp21;go_returns;exact ⟨rfl,_,aT,aU,bX.out,c1.out⟩
