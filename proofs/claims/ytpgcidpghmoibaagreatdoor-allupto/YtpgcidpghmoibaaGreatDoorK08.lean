/-
  THE FORM OF RULES, without the program
  THE FORM OF RULES, without the program
  THE REFERENCE's RULES AS STATES
  THE RULES AS STATES, without the program
-/
import Derived.Test.YtpgcidpghmoibaaGreatDoorK05
namespace Go.Proofs.YtpgcidpghmoibaaGreatDoor
namespace G
def Few (N:Nat) (T:List PNode):Prop:=∀ x ∈ T,x.parts.length≤N∧x.ranges.length≤N
theorem Few.nil (N:Nat):Few N []:=fun x hx=>by simp at hx
theorem Few.snoc {N:Nat} {T:List PNode} (h:Few N T) (T0:List PNode) (k:Nat) (rs:List (Nat × Nat)) (o:Bool) (ps:List Nat) (hp:ps.length≤N) (hr:rs.length≤N):Few N (T ++ [mk T0 k rs o ps]):=by
  intro x hx
  rcases List.mem_append.1 hx with hx | hx
  · exact h x hx
  · simp only [List.mem_singleton] at hx
    subst hx
    exact ⟨hp,hr⟩
def NT.pr:NT→Nat
  | .atom=>1
  | _=>0
def Res.Few (s:ByteArray) (nt:NT) (i:Nat):Res→Prop
  | .ok _ j T'=>i + nt.pr≤j∧j≤s.size∧G.Few (s.size + 1) T'
  | .err _ _=>True
theorem R.few {s:ByteArray} {E:List (ByteArray × Nat)} {nt:NT} {d i:Nat} {T:List PNode} {r:Res} (h:R s E nt d i T r) :
    i≤s.size→nt.parts.length≤i→nt.ranges.length≤i→Few (s.size + 1) T→r.Few s nt i:=by
  induction h with
  | quoteErr | setErr | setErr2 | setErr3 | deep | nameForm | nameErr | seqForm=>intros;trivial
  | parenErr | parenForm | seqErr | exprErr=>intros;trivial
  | @quoteEnd ps d i T x j h h2 =>
    intro hi hp _ hT
    have b:=chr_bd h
    have hj:=lt_of_pk (s:=s) (i:=j) (by omega)
    simp only [NT.parts] at hp
    exact ⟨by simp [NT.pr];omega,by omega,(hT.snoc T 115 [(x,x)] false [] (by simp) (by simp)).snoc _ 113 [] false (ps ++ [T.length]) (by simp;omega) (by simp)⟩
  | @quoteMore ps d i T x j r h h2 _ ih =>
    intro hi hp hr hT
    have b:=chr_bd h
    simp only [NT.parts] at hp
    have:=ih (by omega) (by simp [NT.parts];omega) (by simp [NT.ranges]) (hT.snoc T 115 [(x,x)] false [] (by simp) (by simp))
    cases r with
    | err e p=>trivial
    | ok n j' T'=>exact ⟨by have:=this.1;simp [NT.pr] at this ⊢;omega,this.2⟩
  | @setEnd o rs d i T h =>
    intro hi _ hr hT
    have hj:=lt_of_pk (s:=s) (i:=i) (by omega)
    simp only [NT.ranges] at hr
    exact ⟨by simp [NT.pr],by omega,hT.snoc T 115 rs o [] (by simp) (by omega)⟩
  | @setOne o rs d i T a j r h h2 h3 _ ih =>
    intro hi hp hr hT
    have b:=chr_bd h2
    simp only [NT.ranges] at hr
    have:=ih (by omega) (by simp [NT.parts]) (by simp [NT.ranges];omega) hT
    cases r with
    | err e p=>trivial
    | ok n j' T'=>exact ⟨by have:=this.1;simp [NT.pr] at this ⊢;omega,this.2⟩
  | @setTwo o rs d i T a j b' k r h h2 h3 h4 h5 _ ih =>
    intro hi hp hr hT
    have b:=chr_bd h2
    have c:=chr_bd h4
    simp only [NT.ranges] at hr
    have:=ih (by omega) (by simp [NT.parts]) (by simp [NT.ranges];omega) hT
    cases r with
    | err e p=>trivial
    | ok n j' T'=>exact ⟨by have:=this.1;simp [NT.pr] at this ⊢;omega,this.2⟩
  | @paren d i T n j T' h h2 _ h3 ih =>
    intro hi hp hr hT
    have hj:=lt_of_pk (s:=s) (i:=i) (by omega)
    have a:=ih (by omega) (by simp [NT.parts]) (by simp [NT.ranges]) hT
    have hk:=lt_of_pk (s:=s) (i:=skip s j) (by omega)
    have hg:=skip_ge s j
    exact ⟨by have:=a.1;simp [NT.pr] at this ⊢;omega,by omega,a.2.2⟩
  | @dot d i T h =>
    intro hi _ _ hT
    have hj:=lt_of_pk (s:=s) (i:=i) (by omega)
    exact ⟨by simp [NT.pr],by omega,hT.snoc T 115 [] true [] (by simp) (by simp)⟩
  | @name d i T n h h2 h3 =>
    intro hi _ _ hT
    have hj:=lt_of_pk (s:=s) (i:=i) (by omega)
    have hg:=wend_ge s (i + 1)
    have hl:=wend_le s (i + 1) (by omega)
    exact ⟨by simp [NT.pr];omega,hl,hT⟩
  | @quote d i T r h _ ih =>
    intro hi _ _ hT
    have hj:=lt_of_pk (s:=s) (i:=i) (by omega)
    have:=ih (by omega) (by simp [NT.parts]) (by simp [NT.ranges]) hT
    cases r with
    | err e p=>trivial
    | ok n j' T'=>exact ⟨by have:=this.1;simp [NT.pr] at this ⊢;omega,this.2⟩
  | @setNot d i T r h h2 _ ih =>
    intro hi _ _ hT
    have hj:=lt_of_pk (s:=s) (i:=i + 1) (by omega)
    have:=ih (by omega) (by simp [NT.parts]) (by simp [NT.ranges]) hT
    cases r with
    | err e p=>trivial
    | ok n j' T'=>exact ⟨by have:=this.1;simp [NT.pr] at this ⊢;omega,this.2⟩
  | @set d i T r h h2 _ ih =>
    intro hi _ _ hT
    have hj:=lt_of_pk (s:=s) (i:=i) (by omega)
    have:=ih (by omega) (by simp [NT.parts]) (by simp [NT.ranges]) hT
    cases r with
    | err e p=>trivial
    | ok n j' T'=>exact ⟨by have:=this.1;simp [NT.pr] at this ⊢;omega,this.2⟩
  | @seqRep ps d i T n j T' r h _ h3 _ ih1 ih2 =>
    intro hi hp _ hT
    have hg:=skip_ge s i
    obtain ⟨a1,a2,a3⟩:=ih1 (skip_le s _ hi) (by simp [NT.parts]) (by simp [NT.ranges]) hT
    simp only [NT.pr] at a1
    simp only [NT.parts] at hp
    have hg2:=skip_ge s j
    have hk:=lt_of_pk (s:=s) (i:=skip s j) (by simp [repeats] at h3;omega)
    have:=ih2 (by omega) (by simp [NT.parts];omega) (by simp [NT.ranges]) (a3.snoc T' _ [] false [n] (by simp) (by simp))
    cases r with
    | err e p=>trivial
    | ok n j' T'=>exact ⟨by have:=this.1;simp [NT.pr] at this ⊢;omega,this.2⟩
  | @seqItem ps d i T n j T' r h _ h3 _ ih1 ih2 =>
    intro hi hp _ hT
    have hg:=skip_ge s i
    obtain ⟨a1,a2,a3⟩:=ih1 (skip_le s _ hi) (by simp [NT.parts]) (by simp [NT.ranges]) hT
    simp only [NT.pr] at a1
    simp only [NT.parts] at hp
    have hg2:=skip_ge s j
    have:=ih2 (skip_le s _ a2) (by simp [NT.parts];omega) (by simp [NT.ranges]) a3
    cases r with
    | err e p=>trivial
    | ok n j' T'=>exact ⟨by have:=this.1;simp [NT.pr] at this ⊢;omega,this.2⟩
  | @seqEnd ps d i T h hn =>
    intro hi hp _ hT
    have hg:=skip_ge s i
    simp only [NT.parts] at hp
    exact ⟨by simp [NT.pr];omega,skip_le s _ hi,hT.snoc T 113 [] false ps (by omega) (by simp)⟩
  | @exprMore ps d i T n j T' r _ h2 _ ih1 ih2 =>
    intro hi hp _ hT
    obtain ⟨a1,a2,a3⟩:=ih1 hi (by simp [NT.parts]) (by simp [NT.ranges]) hT
    simp only [NT.pr] at a1
    simp only [NT.parts] at hp
    have hg2:=skip_ge s j
    have hk:=lt_of_pk (s:=s) (i:=skip s j) (by omega)
    have:=ih2 (by omega) (by simp [NT.parts];omega) (by simp [NT.ranges]) a3
    cases r with
    | err e p=>trivial
    | ok n j' T'=>exact ⟨by have:=this.1;simp [NT.pr] at this ⊢;omega,this.2⟩
  | @exprEnd ps d i T n j T' _ h2 ih =>
    intro hi hp _ hT
    obtain ⟨a1,a2,a3⟩:=ih hi (by simp [NT.parts]) (by simp [NT.ranges]) hT
    simp only [NT.pr] at a1
    simp only [NT.parts] at hp
    have hg2:=skip_ge s j
    exact ⟨by simp [NT.pr];omega,skip_le s _ a2,a3.snoc T' 99 [] false (ps ++ [n]) (by simp;omega) (by simp)⟩
def SRes.Few (s:ByteArray):SRes→Prop
  | .rule _ j T'=>j≤s.size∧G.Few (s.size + 1) T'
  | .defn _ _ j T'=>j≤s.size∧G.Few (s.size + 1) T'
  | .err _ _=>True
theorem Stm.few {s:ByteArray} {E:List (ByteArray × Nat)} {k:Nat} {T:List PNode} {r:SRes} (h:Stm s E k T r) (hk:k≤s.size) (hT:Few (s.size + 1) T):r.Few s:=by
  cases h with
  | ruleErr | ruleForm | dup | defErr | defForm=>trivial
  | @rule n j T' h1 hr h3 =>
    have a:=hr.few hk (by simp [NT.parts]) (by simp [NT.ranges]) hT
    have hlt:=lt_of_pk (s:=s) (i:=skip s j) (by omega)
    exact ⟨by omega,a.2.2⟩
  | @defn n j T' h1 h2 hr h3 =>
    have h4:=lt_of_pk (s:=s) (i:=skip s (wend s (k + 1))) (by have:=h1.2.2;omega)
    have a:=hr.few (by omega) (by simp [NT.parts]) (by simp [NT.ranges]) hT
    have hlt:=lt_of_pk (s:=s) (i:=skip s j) (by omega)
    exact ⟨by omega,a.2.2⟩
def Fin'.Few (s:ByteArray):Fin'→Prop
  | .ok _ T=>G.Few (s.size + 1) T
  | .err _ _=>True
theorem Src.few {s:ByteArray} {i:Nat} {E:List (ByteArray × Nat)} {Q:List Nat} {T:List PNode} {r:Fin'} (h:Src s i E Q T r):i≤s.size→Few (s.size + 1) T→r.Few s:=by
  induction h with
  | done=>intro _ hT;exact hT
  | err=>intros;trivial
  | rule h1 h2 _ ih=>intro _ hT;have:=h2.few (by omega) hT;exact ih this.1 this.2
  | defn h1 h2 _ ih=>intro _ hT;have:=h2.few (by omega) hT;exact ih this.1 this.2
def Fin'.Long (s:ByteArray):Fin'→Prop
  | .ok Q T=>T.length≤4 * s.size∧Q.length≤s.size
  | .err _ _=>True
theorem Src.long {s:ByteArray} {i:Nat} {E:List (ByteArray × Nat)} {Q:List Nat} {T:List PNode} {r:Fin'} (h:Src s i E Q T r):i≤s.size→WF T→(∀ x ∈ E,x.2 < T.length)→T.length≤4 * i→Q.length≤i→r.Long s:=by
  induction h with
  | done=>intro hi _ _ h1 h2;exact ⟨by omega,by omega⟩
  | err=>intros;trivial
  | @rule i E Q T n j T' r h1 h2 _ ih =>
    intro hi hT hE hl hq
    have hg:=skip_ge s i
    obtain ⟨a1,a2,a3,a4,a5,a6⟩:=h2.fine (by omega) hT hE (by omega)
    exact ih a2 a4 (fun x hx=>by have:=hE x hx;omega) a6 (by simp;omega)
  | @defn i E Q T nm n j T' r h1 h2 _ ih =>
    intro hi hT hE hl hq
    have hg:=skip_ge s i
    obtain ⟨a1,a2,a3,a4,a5,a6⟩:=h2.fine (by omega) hT hE (by omega)
    refine ih a2 a4 (fun x hx=>?_) a6 (by omega)
    rcases List.mem_append.1 hx with hx | hx
    · have:=hE x hx;omega
    · simp only [List.mem_singleton] at hx;subst hx;exact a3
end G
end Go.Proofs.YtpgcidpghmoibaaGreatDoor

namespace Go.Proofs.YtpgcidpghmoibaaGreatDoor
namespace G
theorem R.det {s:ByteArray} {E:List (ByteArray × Nat)} {nt:NT} {d i:Nat} {T:List PNode} {r:Res} (h:R s E nt d i T r):∀ r',R s E nt d i T r'→r=r':=by
  induction h with
  | quoteErr h1 =>
    intro r' g
    cases g with
    | quoteErr g1=>rfl
    | quoteEnd g1 | quoteMore g1=>rw [h1] at g1;cases g1
  | quoteEnd h1 h2 =>
    intro r' g
    cases g with
    | quoteErr g1=>rw [h1] at g1;cases g1
    | quoteEnd g1 g2=>rw [h1] at g1;cases g1;rfl
    | quoteMore g1 g2 g3=>rw [h1] at g1;cases g1;exact absurd h2 g2
  | quoteMore h1 h2 h3 ih =>
    intro r' g
    cases g with
    | quoteErr g1=>rw [h1] at g1;cases g1
    | quoteEnd g1 g2=>rw [h1] at g1;cases g1;exact absurd g2 h2
    | quoteMore g1 g2 g3=>rw [h1] at g1;cases g1;exact ih _ g3
  | setEnd h1 =>
    intro r' g
    cases g with
    | setEnd g1=>rfl
    | setErr g1 | setOne g1 | setErr2 g1 | setErr3 g1 | setTwo g1=>exact absurd h1 g1
  | setErr h1 h2 =>
    intro r' g
    cases g with
    | setEnd g1=>exact absurd g1 h1
    | setErr g1=>rfl
    | setOne g1 g2 | setErr2 g1 g2 | setErr3 g1 g2 | setTwo g1 g2=>rw [h2] at g2;cases g2
  | setOne h1 h2 h3 h4 ih =>
    intro r' g
    cases g with
    | setEnd g1=>exact absurd g1 h1
    | setErr g1 g2=>rw [h2] at g2;cases g2
    | setOne g1 g2 g3 g4=>rw [h2] at g2;cases g2;exact ih _ g4
    | setErr2 g1 g2 g3 | setErr3 g1 g2 g3 | setTwo g1 g2 g3=>rw [h2] at g2;cases g2;exact absurd g3 h3
  | setErr2 h1 h2 h3 h4 =>
    intro r' g
    cases g with
    | setEnd g1=>exact absurd g1 h1
    | setErr g1 g2=>rw [h2] at g2;cases g2
    | setOne g1 g2 g3 g4=>rw [h2] at g2;cases g2;exact absurd h3 g3
    | setErr2 g1 g2 g3 g4=>rw [h2] at g2;cases g2;rfl
    | setErr3 g1 g2 g3 g4 | setTwo g1 g2 g3 g4=>rw [h2] at g2;cases g2;rw [h4] at g4;cases g4
  | setErr3 h1 h2 h3 h4 h5 =>
    intro r' g
    cases g with
    | setEnd g1=>exact absurd g1 h1
    | setErr g1 g2=>rw [h2] at g2;cases g2
    | setOne g1 g2 g3 g4=>rw [h2] at g2;cases g2;exact absurd h3 g3
    | setErr2 g1 g2 g3 g4=>rw [h2] at g2;cases g2;rw [h4] at g4;cases g4
    | setErr3 g1 g2 g3 g4=>rfl
    | setTwo g1 g2 g3 g4 g5=>rw [h2] at g2;cases g2;rw [h4] at g4;cases g4;omega
  | setTwo h1 h2 h3 h4 h5 h6 ih =>
    intro r' g
    cases g with
    | setEnd g1=>exact absurd g1 h1
    | setErr g1 g2=>rw [h2] at g2;cases g2
    | setOne g1 g2 g3 g4=>rw [h2] at g2;cases g2;exact absurd h3 g3
    | setErr2 g1 g2 g3 g4=>rw [h2] at g2;cases g2;rw [h4] at g4;cases g4
    | setErr3 g1 g2 g3 g4 g5=>rw [h2] at g2;cases g2;rw [h4] at g4;cases g4;omega
    | setTwo g1 g2 g3 g4 g5 g6=>rw [h2] at g2;cases g2;rw [h4] at g4;cases g4;exact ih _ g6
  | deep h1 h2=>intro r' g;cases g <;> first | rfl | (exfalso;omega)
  | parenErr h1 h2 h3 ih =>
    intro r' g
    cases g with
    | parenErr g1 g2 g3=>exact ih _ g3
    | parenForm g1 g2 g3=>have:=ih _ g3;cases this
    | paren g1 g2 g3=>have:=ih _ g3;cases this
    | _=>exfalso;omega
  | parenForm h1 h2 h3 h4 ih =>
    intro r' g
    cases g with
    | parenErr g1 g2 g3=>have:=ih _ g3;cases this
    | parenForm g1 g2 g3=>have:=ih _ g3;cases this;rfl
    | paren g1 g2 g3 g4=>have:=ih _ g3;cases this;exact absurd g4 h4
    | _=>exfalso;omega
  | paren h1 h2 h3 h4 ih =>
    intro r' g
    cases g with
    | parenErr g1 g2 g3=>have:=ih _ g3;cases this
    | parenForm g1 g2 g3 g4=>have:=ih _ g3;cases this;exact absurd h4 g4
    | paren g1 g2 g3 g4=>have:=ih _ g3;cases this;rfl
    | _=>exfalso;omega
  | dot h1=>intro r' g;cases g <;> first | rfl | (exfalso;omega)
  | nameForm h1 h2=>intro r' g;cases g <;> first | rfl | (exfalso;omega)
  | nameErr h1 h2 h3 =>
    intro r' g
    cases g with
    | nameErr=>rfl
    | name g1 g2 g3=>rw [h3] at g3;cases g3
    | _=>exfalso;omega
  | name h1 h2 h3 =>
    intro r' g
    cases g with
    | nameErr g1 g2 g3=>rw [h3] at g3;cases g3
    | name g1 g2 g3=>rw [h3] at g3;cases g3;rfl
    | _=>exfalso;omega
  | quote h1 h2 ih =>
    intro r' g
    cases g with
    | quote g1 g2=>exact ih _ g2
    | _=>exfalso;omega
  | setNot h1 h2 h3 ih =>
    intro r' g
    cases g with
    | setNot g1 g2 g3=>exact ih _ g3
    | _=>exfalso;omega
  | set h1 h2 h3 ih =>
    intro r' g
    cases g with
    | set g1 g2 g3=>exact ih _ g3
    | _=>exfalso;omega
  | seqErr h1 h2 ih =>
    intro r' g
    cases g with
    | seqErr g1 g2=>exact ih _ g2
    | seqRep g1 g2 | seqItem g1 g2=>have:=ih _ g2;cases this
    | seqForm g1 | seqEnd g1=>rw [h1] at g1;cases g1
  | seqRep h1 h2 h3 h4 ih1 ih2 =>
    intro r' g
    cases g with
    | seqErr g1 g2=>have:=ih1 _ g2;cases this
    | seqRep g1 g2 g3 g4=>have:=ih1 _ g2;cases this;exact ih2 _ g4
    | seqItem g1 g2 g3=>have:=ih1 _ g2;cases this;rw [h3] at g3;cases g3
    | seqForm g1 | seqEnd g1=>rw [h1] at g1;cases g1
  | seqItem h1 h2 h3 h4 ih1 ih2 =>
    intro r' g
    cases g with
    | seqErr g1 g2=>have:=ih1 _ g2;cases this
    | seqRep g1 g2 g3=>have:=ih1 _ g2;cases this;rw [h3] at g3;cases g3
    | seqItem g1 g2 g3 g4=>have:=ih1 _ g2;cases this;exact ih2 _ g4
    | seqForm g1 | seqEnd g1=>rw [h1] at g1;cases g1
  | seqForm h1 =>
    intro r' g
    cases g with
    | seqErr g1 | seqRep g1 | seqItem g1=>rw [h1] at g1;cases g1
    | seqForm=>rfl
    | seqEnd g1 g2=>exact absurd rfl g2
  | seqEnd h1 h2 =>
    intro r' g
    cases g with
    | seqErr g1 | seqRep g1 | seqItem g1=>rw [h1] at g1;cases g1
    | seqForm=>exact absurd rfl h2
    | seqEnd=>rfl
  | exprErr h1 ih =>
    intro r' g
    cases g with
    | exprErr g1=>have:=ih _ g1;cases this;rfl
    | exprMore g1 | exprEnd g1=>have:=ih _ g1;cases this
  | exprMore h1 h2 h3 ih1 ih2 =>
    intro r' g
    cases g with
    | exprErr g1=>have:=ih1 _ g1;cases this
    | exprMore g1 g2 g3=>have:=ih1 _ g1;cases this;exact ih2 _ g3
    | exprEnd g1 g2=>have:=ih1 _ g1;cases this;exact absurd h2 g2
  | exprEnd h1 h2 ih =>
    intro r' g
    cases g with
    | exprErr g1=>have:=ih _ g1;cases this
    | exprMore g1 g2=>have:=ih _ g1;cases this;exact absurd g2 h2
    | exprEnd g1 g2=>have:=ih _ g1;cases this;rfl
theorem Stm.det {s:ByteArray} {E:List (ByteArray × Nat)} {k:Nat} {T:List PNode} {r r':SRes} (h:Stm s E k T r) (g:Stm s E k T r'):r=r':=by
  cases h with
  | ruleErr h1 h2 =>
    cases g with
    | ruleErr g1 g2=>have:=h2.det _ g2;cases this;rfl
    | ruleForm g1 g2 | rule g1 g2=>have:=h2.det _ g2;cases this
    | dup g1 | defErr g1 | defForm g1 | defn g1=>exact absurd g1 h1
  | ruleForm h1 h2 h3 =>
    cases g with
    | ruleErr g1 g2=>have:=h2.det _ g2;cases this
    | ruleForm g1 g2=>have:=h2.det _ g2;cases this;rfl
    | rule g1 g2 g3=>have:=h2.det _ g2;cases this;exact absurd g3 h3
    | dup g1 | defErr g1 | defForm g1 | defn g1=>exact absurd g1 h1
  | rule h1 h2 h3 =>
    cases g with
    | ruleErr g1 g2=>have:=h2.det _ g2;cases this
    | ruleForm g1 g2 g3=>have:=h2.det _ g2;cases this;exact absurd h3 g3
    | rule g1 g2=>have:=h2.det _ g2;cases this;rfl
    | dup g1 | defErr g1 | defForm g1 | defn g1=>exact absurd g1 h1
  | dup h1 h2 =>
    cases g with
    | ruleErr g1 | ruleForm g1 | rule g1=>exact absurd h1 g1
    | dup=>rfl
    | defErr g1 g2 | defForm g1 g2 | defn g1 g2=>rw [h2] at g2;cases g2
  | defErr h1 h2 h3 =>
    cases g with
    | ruleErr g1 | ruleForm g1 | rule g1=>exact absurd h1 g1
    | dup g1 g2=>rw [h2] at g2;cases g2
    | defErr g1 g2 g3=>have:=h3.det _ g3;cases this;rfl
    | defForm g1 g2 g3 | defn g1 g2 g3=>have:=h3.det _ g3;cases this
  | defForm h1 h2 h3 h4 =>
    cases g with
    | ruleErr g1 | ruleForm g1 | rule g1=>exact absurd h1 g1
    | dup g1 g2=>rw [h2] at g2;cases g2
    | defErr g1 g2 g3=>have:=h3.det _ g3;cases this
    | defForm g1 g2 g3=>have:=h3.det _ g3;cases this;rfl
    | defn g1 g2 g3 g4=>have:=h3.det _ g3;cases this;exact absurd g4 h4
  | defn h1 h2 h3 h4 =>
    cases g with
    | ruleErr g1 | ruleForm g1 | rule g1=>exact absurd h1 g1
    | dup g1 g2=>rw [h2] at g2;cases g2
    | defErr g1 g2 g3=>have:=h3.det _ g3;cases this
    | defForm g1 g2 g3 g4=>have:=h3.det _ g3;cases this;exact absurd h4 g4
    | defn g1 g2 g3=>have:=h3.det _ g3;cases this;rfl
theorem Src.det {s:ByteArray} {i:Nat} {E:List (ByteArray × Nat)} {Q:List Nat} {T:List PNode} {r:Fin'} (h:Src s i E Q T r):∀ r',Src s i E Q T r'→r=r':=by
  induction h with
  | done h1 =>
    intro r' g
    cases g with
    | done=>rfl
    | err g1 | rule g1 | defn g1=>exact absurd g1 h1
  | err h1 h2 =>
    intro r' g
    cases g with
    | done g1=>exact absurd h1 g1
    | err g1 g2=>have:=h2.det g2;cases this;rfl
    | rule g1 g2 | defn g1 g2=>have:=h2.det g2;cases this
  | rule h1 h2 h3 ih =>
    intro r' g
    cases g with
    | done g1=>exact absurd h1 g1
    | err g1 g2=>have:=h2.det g2;cases this
    | rule g1 g2 g3=>have:=h2.det g2;cases this;exact ih _ g3
    | defn g1 g2=>have:=h2.det g2;cases this
  | defn h1 h2 h3 ih =>
    intro r' g
    cases g with
    | done g1=>exact absurd h1 g1
    | err g1 g2=>have:=h2.det g2;cases this
    | rule g1 g2=>have:=h2.det g2;cases this
    | defn g1 g2 g3=>have:=h2.det g2;cases this;exact ih _ g3
end G
end Go.Proofs.YtpgcidpghmoibaaGreatDoor

namespace Go.Proofs.YtpgcidpghmoibaaGreatDoor
namespace Rf
open Go.RowKit
open G (PNode)
theorem infoState:(Tryz.prog.info? 194).map (fun i=>(i.zero,i.size,i.bytes))=some (some (.agg #[.int .i64 0,.slice none 0 0]),2,32):=by kernel_rfl
def MutS (b:Nat) (vS vB vF:Value) (k:Nat):Prop:=k=b ∨ vS.ownBlock=some k ∨ vB.ownBlock=some k ∨ vF.ownBlock=some k
def Sa (w:World) (b:Nat) (S M:Nat→Prop) (T:List PNode) (Q:List Nat) (L:List PState) (B F:List Nat):Prop:=
  ∃ cs vN vR vS vB vF V W,SaAt w b T Q L B F cs vN vR vS vB vF V W∧cs.size=11∧(∀ k,FootS b vN vR vS vB vF V W k→S k)∧(∀ k,S k→k < w.heap.size)∧(∀ k,MutS b vS vB vF k→M k)∧(∀ k,M k→S k)∧∀ k,ImmS vN vR V W k→¬ M k
theorem addS_fin {w wz X w4:World} {b:Nat} {S M:Nat→Prop} {T:List PNode} {Q:List Nat} {L:List PState} {B F:List Nat} {cs:Array Value} {vN vR vS vB vF:Value} {V:List (Value × Value)} {W:List Value} {g2 cap2:Nat} (x:PState) (nv:Value)
    (hM:∀ k,MutS b vS vB vF k→M k) (hMS:∀ k,M k→S k) (hIM:∀ k,ImmS vN vR V W k→¬ M k) (hcs:cs.size=11) (hf:∀ k,FootS b vN vR vS vB vF V W k→S k) (hS:∀ k,S k→k < w.heap.size) (A:SaAt wz b T Q L B F cs vN vR vS vB vF V W) (hz:Kept (fun _=>True) w wz) (hX:Kept (fun _=>True) wz X) (hg:X.grownBy w4 vS.ownBlock)
    (hown:w4.ownsRow 0 194 2 (.slice (some ⟨g2,0,none⟩) (L.length + 1) cap2) (L.length + 1) (scells L W ++ scell x nv)) (hat:vS.ownBlock=some g2 ∨ g2=wz.heap.size + 1) (hlt:g2 < w4.heap.size)
    (hnv:w.ownsRow 0 3 1 nv x.next.length (ints x.next)) (hnS:∀ j,nv.ownBlock=some j→¬ S j) :
    ∃ S' M',Sa (w4.setCell ⟨b,8,none⟩ (.slice (some ⟨g2,0,none⟩) (L.length + 1) cap2)) b S' M' T Q (L ++ [x]) B F∧Evo w M (w4.setCell ⟨b,8,none⟩ (.slice (some ⟨g2,0,none⟩) (L.length + 1) cap2)) M' ∧
      ∀ j,S' j→S j ∨ nv.ownBlock=some j ∨ w.heap.size≤j:=by
  have hsz:w.heap.size≤w4.heap.size:=Nat.le_trans hz.size (Nat.le_trans hX.size hg.size)
  have A2:=A.addS x nv hX hg hown (lies_of hat (by omega)) (own_same hnv (fun j e=>hz.block j (hnv.lt j e).2 trivial)) (fun j e h2=>hnS j e (hf j h2)) hcs
  have hg2:M g2 ∨ (w.heap.size≤g2∧g2 < w4.heap.size):=by
    rcases hat with h | h
    · exact .inl (hM _ (.inr (.inl h)))
    · exact .inr ⟨by have:=hz.size;omega,hlt⟩
  have him:∀ k,ImmS vN vR V (W ++ [nv]) k→ImmS vN vR V W k ∨ nv.ownBlock=some k:=by
    rintro k (e | e | e | ⟨u,hu,e⟩)
    · exact .inl (.inl e)
    · exact .inl (.inr (.inl e))
    · exact .inl (.inr (.inr (.inl e)))
    · rcases List.mem_append.1 hu with hu | hu
      · exact .inl (.inr (.inr (.inr ⟨u,hu,e⟩)))
      · simp only [List.mem_singleton] at hu
        subst hu
        exact .inr e
  refine ⟨fun j=>S j ∨ nv.ownBlock=some j ∨ (w.heap.size≤j∧j < w4.heap.size),fun j=>M j ∨ (w.heap.size≤j∧j < w4.heap.size),⟨_,_,_,_,_,_,_,_,A2,by simpa using hcs,?_,?_,?_,?_,?_⟩,⟨?_,fun j hj=>hj.imp id (fun h=>h.1)⟩,?_⟩
  · rintro j (rfl | e | e | e | e)
    · exact .inl (hf _ (.inl rfl))
    · have e2:g2=j:=by simpa [Value.ownBlock] using e
      subst e2
      rcases hg2 with h | h
      · exact .inl (hMS _ h)
      · exact .inr (.inr h)
    · exact .inl (hf _ (.inr (.inr (.inl e))))
    · exact .inl (hf _ (.inr (.inr (.inr (.inl e)))))
    · rcases him j e with e | e
      · exact .inl (hf _ (.inr (.inr (.inr (.inr e)))))
      · exact .inr (.inl e)
  · have e:(w4.setCell ⟨b,8,none⟩ (.slice (some ⟨g2,0,none⟩) (L.length + 1) cap2)).heap.size=w4.heap.size:=by simp [World.setCell]
    rw [e]
    rintro j (h | h | h)
    · have:=hS j h;omega
    · have:=(hnv.lt j h).2;omega
    · exact h.2
  · rintro j (rfl | e | e | e)
    · exact .inl (hM _ (.inl rfl))
    · have e2:g2=j:=by simpa [Value.ownBlock] using e
      exact e2 ▸ hg2
    · exact .inl (hM _ (.inr (.inr (.inl e))))
    · exact .inl (hM _ (.inr (.inr (.inr e))))
  · rintro j (h | h)
    · exact .inl (hMS j h)
    · exact .inr (.inr h)
  · rintro j e (h | h)
    · rcases him j e with e | e
      · exact hIM j e h
      · exact hnS j e (hMS j h)
    · rcases him j e with e | e
      · have:=hS j (hf j (.inr (.inr (.inr (.inr e)))));omega
      · have:=(hnv.lt j e).2;omega
  · refine Kept.setCell ?_ (fun hn=>hn (hM b (.inl rfl))) _
    exact Kept.grown ((hz.trans hX).mono (fun _ _ _=>trivial)) hg (fun j e _ hn=>hn (hM j (.inr (.inl e))))
  · rintro j (h | h | h)
    · exact .inl h
    · exact .inr (.inl h)
    · exact .inr (.inr h.1)
set_option maxRecDepth 100000 in
set_option maxHeartbeats 1000000 in
theorem state_any (w:World) (b:Nat) (S M:Nat→Prop) (T:List PNode) (Q:List Nat) (L:List PState) (B F:List Nat) (hS:Sa w b S M T Q L B F) (x:PState) (na:Option Addr) (nc:Nat)
    (hnv:w.ownsRow 0 3 1 (.slice na x.next.length nc) x.next.length (ints x.next)) (hnS:∀ j,(Value.slice na x.next.length nc).ownBlock=some j→¬ S j) (hl:L.length≤100000) :
    Calls Tryz.prog 113 #[.pointer (some ⟨b,0,none⟩),.agg #[.int .i64 x.node,.slice na x.next.length nc]] w fun e w'=>e=.returned (.int .i64 (L.length:Int)) ∧
      ∃ S' M',Sa w' b S' M' T Q (L ++ [x]) B F∧Evo w M w' M'∧∀ j,S' j→S j ∨ (Value.slice na x.next.length nc).ownBlock=some j ∨ w.heap.size≤j:=by
  obtain ⟨i0,hi,hz0,hz1,hz2⟩:=info_parts infoState
  obtain ⟨cs,vN,vR,vS,vB,vF,V,W,A,hcs,hf,hlt,hM,hMS,hIM⟩:=hS
  have hSb:=hf b (.inl rfl)
  have hbl:=hlt b hSb
  have hbx:b ≠ w.heap.size:=by omega
  have hz:Kept (fun _=>True) w (w.alloc (.cells #[.int .i64 x.node,.slice na x.next.length nc] 194)):=(Kept.refl _ _).alloc _
  have Az:=A.same (w':=w.alloc (.cells #[.int .i64 x.node,.slice na x.next.length nc] 194)) (fun k hk=>hz.block k (hlt k (hf k hk)) trivial)
  have c8:=cell_blk Az.ro.blk 8 vS Az.c8
  have hbb:=heap_alloc_new w (.cells #[.int .i64 x.node,.slice na x.next.length nc] 194)
  have d0:=cell_blk hbb 0 (.int .i64 x.node) rfl
  have d1:=cell_blk hbb 1 (.slice na x.next.length nc) rfl
  have nb:=A.nbS
  have oS:=Az.oS
  have hwz:b < (w.alloc (.cells #[.int .i64 x.node,.slice na x.next.length nc] 194)).heap.size:=by simp;omega
  have HA:Hid _:=And.intro Az (And.intro hz hlt)
  clear Az hz hbb A hlt
  go_enter Tryz.func113,Tryz.ntmps113
  go_wp2
  generalize w.alloc (.cells #[.int .i64 x.node,.slice na x.next.length nc] 194)=wz at *
  go_region_law
    ((refine step_append_lies _ (by rfl) _ _ _ (by rfl) 0 194 i0 _ 2 32 Tryz.underlying34 hi hz0 hz1 hz2 rfl (by omega) vS L.length (scells L W) (by rfl) ((oS.alloc _).drew)
        ⟨wz.heap.size,0,none⟩ 1 1 [.int .i64 x.node,.slice na x.next.length nc] (by rfl) (by rfl) (World.news_of_block (cs:=#[.int .i64 x.node,.slice na x.next.length nc]) (t:=194) (fr:=(0,0)) (heap_alloc_new wz _)) (fun y hy=>by simp at hy;rcases hy with rfl | rfl <;> rfl)
        (by omega) (by unfold maxLen;omega) (by omega) (by simp) (wz.heap.size + 1) (by simp) ?_;intro g2 cap2 w4 hn2 hg2 hat2 hlt2;have hb4:w4.heap[b]?=_:=(hg2.block b (by simp;omega) (fun e=>nb e.symm)).trans ((Below.heap_alloc _ _ _ hwz).trans HA.out.1.ro.blk);have fb2':=free_blk hb4 8;have cb2':=cell_blk hb4 8 vS HA.out.1.c8;clear hb4))
  all_goals
    have hfin:=addS_fin x (.slice na x.next.length nc) hM hMS hIM hcs hf HA.out.2.2 HA.out.1 HA.out.2.1 (((Kept.refl _ _).alloc _).drew) hg2 hn2 hat2 hlt2 hnv hnS
    have HQ:Hid _:=hfin
    clear hfin hn2 hg2 hat2 oS c8 d0 d1
    go_wp2
    go_ret
    exact ⟨ret_int (by omega),HQ.out⟩
end Rf
end Go.Proofs.YtpgcidpghmoibaaGreatDoor

namespace Go.Proofs.YtpgcidpghmoibaaGreatDoor
namespace G
theorem bare_spec {T:List PNode} (hT:WF T):∀ (n:Nat),n < T.length→∃ x,T[bare T n]?=some x∧lone x=false∧bare T (bare T n)=bare T n:=by
  intro n
  induction n using Nat.strongRecOn with
  | ind n ih =>
    intro hn
    have hx:T[n]?=some (T[n]'hn):=List.getElem?_eq_getElem hn
    generalize T[n]'hn=x at hx
    cases hl:lone x with
    | false =>
      rw [bare_end hx hl]
      exact ⟨x,hx,hl,bare_end hx hl⟩
    | true =>
      obtain ⟨p,hp⟩:=lone_head hl
      have hpn:=(hT n x hx).parts p (by rw [hp];simp)
      rw [bare_step hT hx hl hp]
      exact ih p hpn (by omega)
theorem rep_spec {T:List PNode} (hT:WF T):∀ (n k:Nat),n < T.length→bare T n=n→bare T (rep T k n).2=(rep T k n).2∧∃ y,T[(rep T k n).2]?=some y∧reps y=false:=by
  intro n
  induction n using Nat.strongRecOn with
  | ind n ih =>
    intro k hn hb
    have hx:T[n]?=some (T[n]'hn):=List.getElem?_eq_getElem hn
    generalize T[n]'hn=x at hx
    cases hl:reps x with
    | false =>
      rw [rep_end hx hl]
      exact ⟨hb,x,hx,hl⟩
    | true =>
      obtain ⟨p,hp,hpn⟩:=reps_one hT hx hl
      have hble:=bare_le hT p
      obtain ⟨_,_,_,hbb⟩:=bare_spec hT p (by omega)
      rw [rep_step hT hx hl hp]
      exact ih (bare T p) (by omega) _ (by omega) hbb
theorem pls_append (T:List PNode) (a c:List Nat):pls T (a ++ c)=pls T a + pls T c:=by simp [pls]
theorem pls_reverse (T:List PNode):∀ ps:List Nat,pls T ps.reverse=pls T ps
  | []=>rfl
  | p :: ps=>by
    rw [List.reverse_cons,pls_append,pls_reverse T ps]
    simp only [pls,List.map_cons,List.sum_cons,List.map_nil,List.sum_nil]
    omega
theorem many {T:List PNode} (hT:WF T) {n:Nat} {x:PNode} (hx:T[n]?=some x) (hk:x.kind=113 ∨ x.kind=99) (hl:lone x=false):2≤x.parts.length:=by
  have hne:x.parts ≠ []:=by
    rcases (hT n x hx).kind with ⟨k,_⟩ | ⟨_,k⟩ | ⟨k,_⟩
    · omega
    · exact k
    · omega
  have h1:x.parts.length ≠ 1:=by
    intro e
    simp only [lone,Bool.and_eq_false_iff,Bool.or_eq_false_iff,decide_eq_false_iff_not] at hl
    omega
  have h0:x.parts.length ≠ 0:=by simpa using hne
  omega
end G
namespace Rf
open G (PNode)
def MT.Fit (T:List PNode) (N:Nat):MT→Prop
  | .node n=>n < T.length
  | .seq ps=>∀ p ∈ ps,p < T.length
  | .alt ps acc=>(∀ p ∈ ps,p < T.length)∧∀ a ∈ acc,a < N
def MR.Fit (N:Nat):MR→Prop
  | .one r=>r < N
  | .many l=>∀ a ∈ l,a < N
def MT.pls (T:List PNode):MT→Nat
  | .node n=>G.pl T n
  | .seq ps=>G.pls T ps
  | .alt ps _=>G.pls T ps
def MT.sl (T:List PNode):MT→Nat
  | .node n=>match T[G.bare T n]? with | some x=>if G.reps x=true then 2 else 3 | none=>3
  | .seq ps=>2 * ps.length
  | .alt ps _=>2 * ps.length
theorem sl_of {T:List PNode} {n:Nat} {x:PNode} (h:T[G.bare T n]?=some x):(MT.node n).sl T=if G.reps x=true then 2 else 3:=by simp [MT.sl,h]
theorem sl_ge (T:List PNode) (n:Nat):2≤(MT.node n).sl T:=by
  cases hx:T[G.bare T n]? with
  | none=>simp [MT.sl,hx]
  | some x =>
    rw [sl_of hx]
    split <;> omega
theorem Md.fine {T:List PNode} (hT:G.WF T) {mt:MT} {to:Nat} {L L':List PState} {r:MR} (h:Md T mt to L r L'):mt.Fit T L.length→to < L.length →
    L.length≤L'.length∧r.Fit L'.length∧L'.length + mt.sl T≤L.length + 4 * mt.pls T∧∀ i,i < L.length→L'[i]?=L[i]?:=by
  induction h with
  | @set n to L x hx hk =>
    intro hf ht
    have hrs:G.reps x=false:=by simp [G.reps,hk]
    have hp:G.pl T n=1:=by rw [← G.pl_bare hT n hf,G.pl_step hT hx,if_pos hk]
    refine ⟨by simp,by show L.length < _;simp,?_,fun i hi=>by rw [List.getElem?_append_left hi]⟩
    rw [sl_of hx,hrs]
    show _≤_ + 4 * G.pl T n
    rw [hp]
    simp
  | @seq n to L x r L' hx hk _ ih =>
    intro hf ht
    have hle:=G.bare_le hT n
    have hrs:G.reps x=false:=by simp [G.reps,hk]
    obtain ⟨y,hy,hl,_⟩:=G.bare_spec hT n hf
    rw [hx] at hy
    simp only [Option.some.injEq] at hy
    subst hy
    have h2:=G.many hT hx (.inl hk) hl
    have hps:∀ p ∈ x.parts.reverse,p < T.length:=fun p hp=>by
      have:=(hT _ x hx).parts p (by simpa using hp)
      have hf':n < T.length:=hf
      omega
    obtain ⟨a1,a2,a3,a4⟩:=ih hps ht
    have hp:G.pl T n=G.pls T x.parts:=by rw [← G.pl_bare hT n hf,G.pl_step hT hx,if_neg (by omega)]
    refine ⟨a1,a2,?_,a4⟩
    rw [sl_of hx,hrs]
    show _≤_ + 4 * G.pl T n
    rw [hp]
    simp only [MT.sl,MT.pls,List.length_reverse,G.pls_reverse] at a3
    simp
    omega
  | seqNil =>
    intro _ ht
    exact ⟨Nat.le_refl _,ht,by simp [MT.sl],fun _ _=>rfl⟩
  | @seqCons p ps to L t1 L1 r L2 _ _ ih1 ih2 =>
    intro hf ht
    obtain ⟨a1,a2,a3,a4⟩:=ih1 (hf p (by simp)) ht
    obtain ⟨b1,b2,b3,b4⟩:=ih2 (fun q hq=>hf q (by simp [hq])) a2
    refine ⟨by omega,b2,?_,fun i hi=>(b4 i (by omega)).trans (a4 i hi)⟩
    have:=sl_ge T p
    simp only [MT.sl,MT.pls,G.pls,List.map_cons,List.sum_cons,List.length_cons] at *
    omega
  | @alt n to L x l L' hx hk _ ih =>
    intro hf ht
    have hle:=G.bare_le hT n
    have hrs:G.reps x=false:=by simp [G.reps,hk]
    obtain ⟨y,hy,hl,_⟩:=G.bare_spec hT n hf
    rw [hx] at hy
    simp only [Option.some.injEq] at hy
    subst hy
    have h2:=G.many hT hx (.inr hk) hl
    have hps:∀ p ∈ x.parts,p < T.length:=fun p hp=>by
      have:=(hT _ x hx).parts p hp
      have hf':n < T.length:=hf
      omega
    obtain ⟨a1,a2,a3,a4⟩:=ih ⟨hps,by simp⟩ ht
    have hp:G.pl T n=G.pls T x.parts:=by rw [← G.pl_bare hT n hf,G.pl_step hT hx,if_neg (by omega)]
    refine ⟨by simp;omega,by show L'.length < _;simp,?_,fun i hi=>by rw [List.getElem?_append_left (by omega)];exact a4 i hi⟩
    rw [sl_of hx,hrs]
    show _≤_ + 4 * G.pl T n
    rw [hp]
    simp only [MT.sl,MT.pls] at a3
    simp
    omega
  | altNil =>
    intro hf ht
    exact ⟨Nat.le_refl _,hf.2,by simp [MT.sl],fun _ _=>rfl⟩
  | @altCons p ps acc to L t1 L1 r L2 _ _ ih1 ih2 =>
    intro hf ht
    obtain ⟨a1,a2,a3,a4⟩:=ih1 (hf.1 p (by simp)) ht
    obtain ⟨b1,b2,b3,b4⟩:=ih2 ⟨fun q hq=>hf.1 q (by simp [hq]),fun a ha=>by
      rcases List.mem_append.1 ha with ha | ha
      · have:=hf.2 a ha;omega
      · simp only [List.mem_singleton] at ha;subst ha;exact a2⟩ (by omega)
    refine ⟨by omega,b2,?_,fun i hi=>(b4 i (by omega)).trans (a4 i hi)⟩
    have:=sl_ge T p
    simp only [MT.sl,MT.pls,G.pls,List.map_cons,List.sum_cons,List.length_cons] at *
    omega
  | @opt n to L x q p L' hx hrp hq _ ih =>
    intro hf ht
    have hf':n < T.length:=hf
    have hle:=G.bare_le hT n
    obtain ⟨_,_,_,hbb⟩:=G.bare_spec hT n hf
    obtain ⟨s1,y,s2,s3⟩:=G.rep_spec hT (G.bare T n) x.kind (by omega) hbb
    obtain ⟨p1,p2⟩:=G.pl_rep hT (G.bare T n) x.kind (by omega)
    rw [hq] at s1 s2 p1 p2
    obtain ⟨a1,a2,a3,a4⟩:=ih (by show q < T.length;omega) ht
    refine ⟨by simp;omega,by show L'.length < _;simp,?_,fun i hi=>by rw [List.getElem?_append_left (by omega)];exact a4 i hi⟩
    rw [sl_of hx,hrp]
    rw [sl_of (by rw [s1];exact s2),s3] at a3
    rw [G.pl_bare hT n hf'] at p1
    have a3':L'.length + 3≤L.length + 4 * G.pl T q:=a3
    show (L' ++ [_]).length + 2≤_ + 4 * G.pl T n
    rw [← p1]
    simp
    omega
  | @loop n to L x k q p L' hx hrp hq hk _ ih =>
    intro hf ht
    have hf':n < T.length:=hf
    have hle:=G.bare_le hT n
    obtain ⟨_,_,_,hbb⟩:=G.bare_spec hT n hf
    obtain ⟨s1,y,s2,s3⟩:=G.rep_spec hT (G.bare T n) x.kind (by omega) hbb
    obtain ⟨p1,p2⟩:=G.pl_rep hT (G.bare T n) x.kind (by omega)
    rw [hq] at s1 s2 p1 p2
    obtain ⟨a1,a2,a3,a4⟩:=ih (by show q < T.length;omega) (by simp)
    have a2':p < L'.length:=a2
    simp only [List.length_append,List.length_singleton] at a1
    refine ⟨by simp;omega,?_,?_,fun i hi=>?_⟩
    · show (if k=43 then p else L.length) < _
      rw [List.length_set]
      split <;> omega
    · rw [sl_of hx,hrp]
      rw [sl_of (by rw [s1];exact s2),s3] at a3
      have p1':G.pl T q=G.pl T n:=by rw [← G.pl_bare hT n hf'];exact p1
      have a3':L'.length + 3≤(L ++ [(⟨-1,[]⟩:PState)]).length + 4 * G.pl T q:=a3
      simp only [List.length_append,List.length_singleton] at a3'
      show (L'.set L.length _).length + 2≤_ + 4 * G.pl T n
      rw [List.length_set]
      omega
    · rw [List.getElem?_set_ne (by omega),a4 i (by simp;omega),List.getElem?_append_left hi]
end Rf
end Go.Proofs.YtpgcidpghmoibaaGreatDoor
