/-
  THE FORM OF RULES, without the program
  THE FORM OF RULES, without the program
  SETS OF RUNES, without the program
  A LAW ON append, of whatever program
  MEMORY, of whatever program
-/
import Derived.Test.YtpgcidpghmoibaaGreatDoorK01
import Derived.Maps.AppendAt
import Derived.ArgAppend
import Derived.Test.YtpgcidpghmoibaaGreatDoorRows
import Derived.WalkKit
import Derived.WalkSpells
import Derived.WalkLawsBesides
import Derived.WalkSmall
import Derived.Handy
import Derived.Deep.AppendLies
import Derived.Deep.RegionLaw
import Derived.Deep.QuietTactic
import Derived.BigQuiet
namespace Go.Proofs.YtpgcidpghmoibaaGreatDoor
namespace G
structure Good (T:List PNode) (k:Nat) (x:PNode):Prop where
  parts:∀ p ∈ x.parts,p < k
  size:x.size=min ((if x.kind=115 then 1 else 0) + sizeOf T x.parts) 101
  pos:1≤x.size
  ranges:∀ r ∈ x.ranges,r.1≤1114111∧r.2≤1114111
  kind:(x.kind=115∧x.parts=[]) ∨ ((x.kind=113 ∨ x.kind=99)∧x.parts ≠ []) ∨ ((x.kind=42 ∨ x.kind=43 ∨ x.kind=63)∧x.parts.length=1)
def WF (T:List PNode):Prop:=∀ k x,T[k]?=some x→Good T k x
theorem sizeOf_append (T X:List PNode) (ps:List Nat) (h:∀ p ∈ ps,p < T.length):sizeOf (T ++ X) ps=sizeOf T ps:=by
  unfold sizeOf
  congr 1
  apply List.map_congr_left
  intro p hp
  unfold sz
  rw [List.getElem?_append_left (h p hp)]
theorem sizeOf_pos (T:List PNode) (hT:WF T) (ps:List Nat) (h:∀ p ∈ ps,p < T.length) (hn:ps ≠ []):1≤sizeOf T ps:=by
  match ps,hn with
  | p :: ps,_ =>
    have hp:=h p (by simp)
    have hx:=List.getElem?_eq_getElem hp
    have:=(hT p _ hx).pos
    simp only [sizeOf,List.map_cons,List.sum_cons,sz_eq hx]
    omega
theorem WF.snoc {T:List PNode} (hT:WF T) (k:Nat) (rs:List (Nat × Nat)) (o:Bool) (ps:List Nat) (hps:∀ p ∈ ps,p < T.length) (hrs:∀ r ∈ rs,r.1≤1114111∧r.2≤1114111)
    (hk:(k=115∧ps=[]) ∨ ((k=113 ∨ k=99)∧ps ≠ []) ∨ ((k=42 ∨ k=43 ∨ k=63)∧ps.length=1)):WF (T ++ [mk T k rs o ps]):=by
  intro j x hx
  rcases Nat.lt_or_ge j T.length with hj | hj
  · rw [List.getElem?_append_left hj] at hx
    have g:=hT j x hx
    refine ⟨g.parts,?_,g.pos,g.ranges,g.kind⟩
    rw [sizeOf_append T _ _ (fun p hp=>by have:=g.parts p hp;omega)]
    exact g.size
  · rw [List.getElem?_append_right hj] at hx
    have h0:j - T.length=0:=by
      obtain ⟨h1,_⟩:=List.getElem?_eq_some_iff.1 hx
      simp at h1
      omega
    rw [h0] at hx
    simp only [List.getElem?_cons_zero,Option.some.injEq] at hx
    subst hx
    have e:j=T.length:=by omega
    subst e
    refine ⟨hps,?_,?_,hrs,hk⟩
    · show min ((if k=115 then 1 else 0) + sizeOf T ps) 101=min ((if k=115 then 1 else 0) + sizeOf (T ++ [mk T k rs o ps]) ps) 101
      rw [sizeOf_append T _ _ hps]
    · show 1≤min ((if k=115 then 1 else 0) + sizeOf T ps) 101
      rcases hk with ⟨rfl,_⟩ | ⟨_,hn⟩ | ⟨_,hl⟩
      · simp;omega
      · have:=sizeOf_pos T hT ps hps hn;omega
      · have:=sizeOf_pos T hT ps hps (by intro e;rw [e] at hl;simp at hl);omega
theorem WF.le {T:List PNode} (hT:WF T):∀ x ∈ T,x.size≤101:=by
  intro x hx
  obtain ⟨k,hk⟩:=List.getElem?_of_mem hx
  have:=(hT k x hk).size
  omega
def NT.parts:NT→List Nat
  | .quote ps=>ps
  | .seq ps=>ps
  | .expr ps=>ps
  | _=>[]
def NT.ranges:NT→List (Nat × Nat)
  | .set _ rs=>rs
  | _=>[]
def NT.sl:NT→Nat
  | .quote _=>0
  | .set _ _=>3
  | .atom=>3
  | .seq ps=>if ps=[] then 2 else 0
  | .expr _=>1
def NT.sr:NT→Nat
  | .seq ps=>if ps=[] then 0 else 1
  | _=>0
def Res.Fine (s:ByteArray) (nt:NT) (i:Nat) (T:List PNode):Res→Prop
  | .ok n j T'=>i≤j∧j≤s.size∧n < T'.length∧WF T'∧(∃ X,T'=T ++ X)∧T'.length + 4 * i + nt.sl≤T.length + 4 * j + nt.sr
  | .err e p=>1≤e∧e≤6∧p≤s.size
theorem lookup_lt {E:List (ByteArray × Nat)} {n:ByteArray} {k m:Nat} (hE:∀ x ∈ E,x.2 < m) (h:lookup E n=some k):k < m:=by
  unfold lookup at h
  cases hf:E.find? fun x=>decide (x.1=n) with
  | none=>rw [hf] at h;cases h
  | some x =>
    rw [hf] at h
    simp only [Option.map_some,Option.some.injEq] at h
    subst h
    exact hE x (List.mem_of_find?_eq_some hf)
theorem R.fine {s:ByteArray} {E:List (ByteArray × Nat)} {nt:NT} {d i:Nat} {T:List PNode} {r:Res} (h:R s E nt d i T r) :
    i≤s.size→WF T→(∀ p ∈ nt.parts,p < T.length)→(∀ x ∈ nt.ranges,x.1≤1114111∧x.2≤1114111)→(∀ x ∈ E,x.2 < T.length)→r.Fine s nt i T:=by
  induction h with
  | quoteErr h=>intro hi _ _ _ _;exact ⟨by omega,by omega,hi⟩
  | @quoteEnd ps d i T x j h h2 =>
    intro hi hT hp _ _
    have b:=chr_bd h
    have hj:=lt_of_pk (s:=s) (i:=j) (by omega)
    have w1:=hT.snoc 115 [(x,x)] false [] (by simp) (by simpa using b.2.2) (.inl ⟨rfl,rfl⟩)
    refine ⟨by omega,by omega,by simp,w1.snoc 113 [] false (ps ++ [T.length]) ?_ (by simp) (.inr (.inl ⟨.inl rfl,by simp⟩)),⟨_,List.append_assoc _ _ _⟩,by simp [NT.sl,NT.sr];omega⟩
    intro p hp2
    rcases List.mem_append.1 hp2 with hp2 | hp2
    · have:=hp p hp2;simp;omega
    · simp at hp2;simp;omega
  | @quoteMore ps d i T x j r h h2 _ ih =>
    intro hi hT hp hr hE
    have b:=chr_bd h
    have w1:=hT.snoc 115 [(x,x)] false [] (by simp) (by simpa using b.2.2) (.inl ⟨rfl,rfl⟩)
    have:=ih (by omega) w1 (by
      intro p hp2
      rcases List.mem_append.1 hp2 with hp2 | hp2
      · have:=hp p hp2;simp;omega
      · simp at hp2;simp;omega) hr (fun y hy=>by have:=hE y hy;simp;omega)
    cases r with
    | err e p=>exact this
    | ok n j' T' =>
      obtain ⟨a1,a2,a3,a4,⟨X,rfl⟩,a6⟩:=this
      refine ⟨by omega,a2,a3,a4,⟨_,List.append_assoc _ _ _⟩,?_⟩
      simp [NT.sl,NT.sr] at a6 ⊢
      omega
  | @setEnd o rs d i T h =>
    intro hi hT _ hr _
    have hj:=lt_of_pk (s:=s) (i:=i) (by omega)
    exact ⟨by omega,by omega,by simp,hT.snoc 115 rs o [] (by simp) hr (.inl ⟨rfl,rfl⟩),⟨_,rfl⟩,by simp [NT.sl,NT.sr];omega⟩
  | setErr h h2=>intro hi _ _ _ _;exact ⟨by omega,by omega,hi⟩
  | @setOne o rs d i T a j r h h2 h3 _ ih =>
    intro hi hT hp hr hE
    have b:=chr_bd h2
    have:=ih (by omega) hT hp (by
      intro y hy
      rcases List.mem_append.1 hy with hy | hy
      · exact hr y hy
      · simp at hy;subst hy;exact ⟨b.2.2,b.2.2⟩) hE
    cases r with
    | err e p=>exact this
    | ok n j' T' =>
      obtain ⟨a1,a2,a3,a4,a5,a6⟩:=this
      refine ⟨by omega,a2,a3,a4,a5,?_⟩
      simp [NT.sl,NT.sr] at a6 ⊢
      omega
  | @setErr2 o rs d i T a j h h2 h3 h4 =>
    intro hi _ _ _ _
    have b:=chr_bd h2
    have hj:=lt_of_pk (s:=s) (i:=j) (by omega)
    exact ⟨by omega,by omega,by omega⟩
  | setErr3 h h2 h3 h4 h5=>intro hi _ _ _ _;exact ⟨by omega,by omega,hi⟩
  | @setTwo o rs d i T a j b' k r h h2 h3 h4 h5 _ ih =>
    intro hi hT hp hr hE
    have b:=chr_bd h2
    have c:=chr_bd h4
    have:=ih (by omega) hT hp (by
      intro y hy
      rcases List.mem_append.1 hy with hy | hy
      · exact hr y hy
      · simp at hy;subst hy;exact ⟨b.2.2,c.2.2⟩) hE
    cases r with
    | err e p=>exact this
    | ok n j' T' =>
      obtain ⟨a1,a2,a3,a4,a5,a6⟩:=this
      refine ⟨by omega,a2,a3,a4,a5,?_⟩
      simp [NT.sl,NT.sr] at a6 ⊢
      omega
  | deep h h2=>intro hi _ _ _ _;exact ⟨by omega,by omega,hi⟩
  | @parenErr d i T e p h h2 _ ih =>
    intro hi hT hp hr hE
    have hj:=lt_of_pk (s:=s) (i:=i) (by omega)
    exact ih (by omega) hT (by simp [NT.parts]) (by simp [NT.ranges]) hE
  | @parenForm d i T n j T' h h2 _ h3 ih =>
    intro hi hT hp hr hE
    have hj:=lt_of_pk (s:=s) (i:=i) (by omega)
    have:=ih (by omega) hT (by simp [NT.parts]) (by simp [NT.ranges]) hE
    exact ⟨by omega,by omega,skip_le s _ this.2.1⟩
  | @paren d i T n j T' h h2 _ h3 ih =>
    intro hi hT hp hr hE
    have hj:=lt_of_pk (s:=s) (i:=i) (by omega)
    obtain ⟨a1,a2,a3,a4,a5,a6⟩:=ih (by omega) hT (by simp [NT.parts]) (by simp [NT.ranges]) hE
    have hk:=lt_of_pk (s:=s) (i:=skip s j) (by omega)
    have hg:=skip_ge s j
    refine ⟨by omega,by omega,a3,a4,a5,?_⟩
    simp [NT.sl,NT.sr] at a6 ⊢
    omega
  | @dot d i T h =>
    intro hi hT _ _ _
    have hj:=lt_of_pk (s:=s) (i:=i) (by omega)
    exact ⟨by omega,by omega,by simp,hT.snoc 115 [] true [] (by simp) (by simp) (.inl ⟨rfl,rfl⟩),⟨_,rfl⟩,by simp [NT.sl,NT.sr];omega⟩
  | nameForm h h2=>intro hi _ _ _ _;exact ⟨by omega,by omega,hi⟩
  | nameErr h h2 h3=>intro hi _ _ _ _;exact ⟨by omega,by omega,hi⟩
  | @name d i T n h h2 h3 =>
    intro hi hT _ _ hE
    have hj:=lt_of_pk (s:=s) (i:=i) (by omega)
    have hg:=wend_ge s (i + 1)
    have hl:=wend_le s (i + 1) (by omega)
    exact ⟨by omega,hl,lookup_lt hE h3,hT,⟨[],by simp⟩,by simp [NT.sl,NT.sr];omega⟩
  | @quote d i T r h _ ih =>
    intro hi hT hp hr hE
    have hj:=lt_of_pk (s:=s) (i:=i) (by omega)
    have:=ih (by omega) hT (by simp [NT.parts]) (by simp [NT.ranges]) hE
    cases r with
    | err e p=>exact this
    | ok n j' T' =>
      obtain ⟨a1,a2,a3,a4,a5,a6⟩:=this
      refine ⟨by omega,a2,a3,a4,a5,?_⟩
      simp [NT.sl,NT.sr] at a6 ⊢
      omega
  | @setNot d i T r h h2 _ ih =>
    intro hi hT hp hr hE
    have hj:=lt_of_pk (s:=s) (i:=i + 1) (by omega)
    have:=ih (by omega) hT (by simp [NT.parts]) (by simp [NT.ranges]) hE
    cases r with
    | err e p=>exact this
    | ok n j' T' =>
      obtain ⟨a1,a2,a3,a4,a5,a6⟩:=this
      refine ⟨by omega,a2,a3,a4,a5,?_⟩
      simp [NT.sl,NT.sr] at a6 ⊢
      omega
  | @set d i T r h h2 _ ih =>
    intro hi hT hp hr hE
    have hj:=lt_of_pk (s:=s) (i:=i) (by omega)
    have:=ih (by omega) hT (by simp [NT.parts]) (by simp [NT.ranges]) hE
    cases r with
    | err e p=>exact this
    | ok n j' T' =>
      obtain ⟨a1,a2,a3,a4,a5,a6⟩:=this
      refine ⟨by omega,a2,a3,a4,a5,?_⟩
      simp [NT.sl,NT.sr] at a6 ⊢
      omega
  | @seqErr ps d i T e p h _ ih =>
    intro hi hT hp hr hE
    exact ih (skip_le s _ hi) hT (by simp [NT.parts]) (by simp [NT.ranges]) hE
  | @seqRep ps d i T n j T' r h _ h3 _ ih1 ih2 =>
    intro hi hT hp hr hE
    obtain ⟨a1,a2,a3,a4,⟨X,rfl⟩,a6⟩:=ih1 (skip_le s _ hi) hT (by simp [NT.parts]) (by simp [NT.ranges]) hE
    have hg:=skip_ge s i
    have hg2:=skip_ge s j
    have hk:=lt_of_pk (s:=s) (i:=skip s j) (by simp [repeats] at h3;omega)
    have w1:=a4.snoc (pk s (skip s j)).toNat [] false [n] (by simpa using a3) (by simp) (.inr (.inr ⟨by simp [repeats] at h3;omega,rfl⟩))
    have:=ih2 (by omega) w1 (by
      intro p hp2
      rcases List.mem_append.1 hp2 with hp2 | hp2
      · have:=hp p hp2;simp;omega
      · simp at hp2;simp;omega) (by simp [NT.ranges]) (fun y hy=>by have:=hE y hy;simp;omega)
    cases r with
    | err e p=>exact this
    | ok n' j' T2 =>
      obtain ⟨b1,b2,b3,b4,⟨Y,rfl⟩,b6⟩:=this
      refine ⟨by omega,b2,b3,b4,⟨X ++ ([mk (T ++ X) (pk s (skip s j)).toNat [] false [n]] ++ Y),by simp⟩,?_⟩
      have e:¬ (ps ++ [T.length + X.length]=[]):=by simp
      simp only [NT.sl,NT.sr,if_neg e,List.length_append,List.length_singleton] at a6 b6 ⊢
      split <;> omega
  | @seqItem ps d i T n j T' r h _ h3 _ ih1 ih2 =>
    intro hi hT hp hr hE
    obtain ⟨a1,a2,a3,a4,⟨X,rfl⟩,a6⟩:=ih1 (skip_le s _ hi) hT (by simp [NT.parts]) (by simp [NT.ranges]) hE
    have hg:=skip_ge s i
    have hg2:=skip_ge s j
    have:=ih2 (skip_le s _ a2) a4 (by
      intro p hp2
      rcases List.mem_append.1 hp2 with hp2 | hp2
      · have:=hp p hp2;simp;omega
      · simp only [List.mem_singleton] at hp2;subst hp2;exact a3) (by simp [NT.ranges]) (fun y hy=>by have:=hE y hy;simp;omega)
    cases r with
    | err e p=>exact this
    | ok n' j' T2 =>
      obtain ⟨b1,b2,b3,b4,⟨Y,rfl⟩,b6⟩:=this
      refine ⟨by omega,b2,b3,b4,⟨X ++ Y,by simp⟩,?_⟩
      have e:¬ (ps ++ [n]=[]):=by simp
      simp only [NT.sl,NT.sr,if_neg e,List.length_append] at a6 b6 ⊢
      split <;> omega
  | seqForm h=>intro hi _ _ _ _;exact ⟨by omega,by omega,skip_le s _ hi⟩
  | @seqEnd ps d i T h hn =>
    intro hi hT hp _ _
    have hg:=skip_ge s i
    exact ⟨hg,skip_le s _ hi,by simp,hT.snoc 113 [] false ps hp (by simp) (.inr (.inl ⟨.inl rfl,hn⟩)),⟨_,rfl⟩,by simp [NT.sl,NT.sr,hn];omega⟩
  | exprErr _ ih =>
    intro hi hT hp hr hE
    exact ih hi hT (by simp [NT.parts]) (by simp [NT.ranges]) hE
  | @exprMore ps d i T n j T' r _ h2 _ ih1 ih2 =>
    intro hi hT hp hr hE
    obtain ⟨a1,a2,a3,a4,⟨X,rfl⟩,a6⟩:=ih1 hi hT (by simp [NT.parts]) (by simp [NT.ranges]) hE
    have hg2:=skip_ge s j
    have hk:=lt_of_pk (s:=s) (i:=skip s j) (by omega)
    have:=ih2 (by omega) a4 (by
      intro p hp2
      rcases List.mem_append.1 hp2 with hp2 | hp2
      · have:=hp p hp2;simp;omega
      · simp only [List.mem_singleton] at hp2;subst hp2;exact a3) (by simp [NT.ranges]) (fun y hy=>by have:=hE y hy;simp;omega)
    cases r with
    | err e p=>exact this
    | ok n' j' T2 =>
      obtain ⟨b1,b2,b3,b4,⟨Y,rfl⟩,b6⟩:=this
      refine ⟨by omega,b2,b3,b4,⟨X ++ Y,by simp⟩,?_⟩
      simp [NT.sl,NT.sr] at a6 b6 ⊢
      omega
  | @exprEnd ps d i T n j T' _ h2 ih =>
    intro hi hT hp hr hE
    obtain ⟨a1,a2,a3,a4,⟨X,rfl⟩,a6⟩:=ih hi hT (by simp [NT.parts]) (by simp [NT.ranges]) hE
    have hg2:=skip_ge s j
    refine ⟨by omega,skip_le s _ a2,by simp,a4.snoc 99 [] false (ps ++ [n]) ?_ (by simp) (.inr (.inl ⟨.inr rfl,by simp⟩)),⟨X ++ [mk (T ++ X) 99 [] false (ps ++ [n])],by simp⟩,?_⟩
    · intro p hp2
      rcases List.mem_append.1 hp2 with hp2 | hp2
      · have:=hp p hp2;simp;omega
      · simp only [List.mem_singleton] at hp2;subst hp2;exact a3
    · simp [NT.sl,NT.sr] at a6 ⊢
      omega
end G
end Go.Proofs.YtpgcidpghmoibaaGreatDoor

namespace Go.Proofs.YtpgcidpghmoibaaGreatDoor
namespace G
def runeB (c:Int):Bool:=decide (0≤c) && decide (c≤1114111) && (decide (c < 55296) || decide (57344≤c))
def within (c:Int) (r:Nat × Nat):Bool:=decide ((r.1:Int)≤c) && decide (c≤(r.2:Int))
def inV (x:PNode) (c:Int):Bool:=if runeB c && x.ranges.any (within c) then !x.other else x.other
def leaves (T:List PNode):Nat→Nat→List PNode
  | 0,_=>[]
  | f + 1,n=>match T[n]? with
    | some x=>if x.kind=115 then [x] else x.parts.flatMap (leaves T f)
    | none=>[]
theorem leaves_step {T:List PNode} {f n:Nat} {x:PNode} (h:T[n]?=some x):leaves T (f + 1) n=if x.kind=115 then [x] else x.parts.flatMap (leaves T f):=by
  simp [leaves,h]
theorem flatMap_congr' {α β:Type} {l:List α} {f g:α→List β} (h:∀ x ∈ l,f x=g x):l.flatMap f=l.flatMap g:=by
  induction l with
  | nil=>rfl
  | cons a l ih=>simp only [List.flatMap_cons,h a (by simp),ih (fun x hx=>h x (by simp [hx]))]
theorem leaves_fuel {T:List PNode} (hT:WF T):∀ (n f g:Nat),n < f→n < g→leaves T f n=leaves T g n:=by
  intro n
  induction n using Nat.strongRecOn with
  | ind n ih =>
    intro f g hf hg
    match f,g,hf,hg with
    | f + 1,g + 1,hf,hg =>
      cases hx:T[n]? with
      | none=>simp [leaves,hx]
      | some x =>
        rw [leaves_step hx,leaves_step hx]
        split
        · rfl
        · apply flatMap_congr'
          intro p hp
          have hpn:=(hT n x hx).parts p hp
          exact ih p hpn f g (by omega) (by omega)
def lv (T:List PNode) (n:Nat):List PNode:=leaves T (n + 1) n
theorem lv_step {T:List PNode} (hT:WF T) {n:Nat} {x:PNode} (h:T[n]?=some x):lv T n=if x.kind=115 then [x] else x.parts.flatMap (lv T):=by
  rw [lv,leaves_step h]
  split
  · rfl
  · apply flatMap_congr'
    intro p hp
    have hpn:=(hT n x h).parts p hp
    exact leaves_fuel hT p _ _ hpn (by omega)
def tellB (T:List PNode) (a c:Int) (n:Nat):Bool:=(lv T n).any fun x=>inV x a != inV x c
theorem tellB_step {T:List PNode} (hT:WF T) (a c:Int) {n:Nat} {x:PNode} (h:T[n]?=some x):tellB T a c n=if x.kind=115 then (inV x a != inV x c) else x.parts.any (tellB T a c):=by
  unfold tellB
  rw [lv_step hT h]
  split
  · simp
  · rw [List.any_flatMap]
end G
end Go.Proofs.YtpgcidpghmoibaaGreatDoor

namespace Go.Proofs.YtpgcidpghmoibaaGreatDoor
namespace G
def Sep (l:List (Nat × Nat)):Prop:=l.Pairwise (fun a b=>a.2 < b.1)∧∀ a ∈ l,a.1≤a.2
def meld (acc:List (Nat × Nat)) (x:Nat × Nat):List (Nat × Nat):=
  match acc.getLast? with
  | some l=>if x.1≤l.2 then acc.dropLast ++ [(l.1,max l.2 x.2)] else acc ++ [x]
  | none=>[x]
theorem any_snoc {α:Type} (l:List α) (x:α) (f:α→Bool):(l ++ [x]).any f=(l.any f || f x):=by simp
theorem snoc_cases {α:Type} (l:List α):l=[] ∨ ∃ i x,l=i ++ [x]:=by
  rcases List.eq_nil_or_concat l with h | ⟨i,x,h⟩
  · exact .inl h
  · exact .inr ⟨i,x,by simpa using h⟩
theorem meld_nil (x:Nat × Nat):meld [] x=[x]:=rfl
theorem meld_in (i:List (Nat × Nat)) (l x:Nat × Nat) (h:x.1≤l.2):meld (i ++ [l]) x=i ++ [(l.1,max l.2 x.2)]:=by
  simp [meld,h]
theorem meld_out (i:List (Nat × Nat)) (l x:Nat × Nat) (h:¬ x.1≤l.2):meld (i ++ [l]) x=i ++ [l] ++ [x]:=by
  simp [meld,h]
theorem meld_sep {acc:List (Nat × Nat)} {x:Nat × Nat} (hs:Sep acc) (ho:∀ a ∈ acc,a.1≤x.1) (hx:x.1≤x.2) :
    Sep (meld acc x)∧(∀ a ∈ meld acc x,a.1≤x.1)∧∀ c,(meld acc x).any (within c)=(acc.any (within c) || within c x):=by
  rcases snoc_cases acc with rfl | ⟨i,l,rfl⟩
  · rw [meld_nil]
    refine ⟨⟨by simp,by simpa using hx⟩,by simp,fun c=>by simp⟩
  · obtain ⟨hp,hn⟩:=hs
    rw [List.pairwise_append] at hp
    obtain ⟨p1,_,p3⟩:=hp
    have hl:l.1≤x.1:=ho l (by simp)
    have hl2:l.1≤l.2:=hn l (by simp)
    by_cases h:x.1≤l.2
    · rw [meld_in i l x h]
      refine ⟨⟨?_,?_⟩,?_,?_⟩
      · rw [List.pairwise_append]
        exact ⟨p1,by simp,fun a ha b hb=>by simp at hb;subst hb;exact p3 a ha l (by simp)⟩
      · intro a ha
        simp only [List.mem_append,List.mem_singleton] at ha
        rcases ha with ha | rfl
        · exact hn a (by simp [ha])
        · show l.1≤max l.2 x.2;omega
      · intro a ha
        simp only [List.mem_append,List.mem_singleton] at ha
        rcases ha with ha | rfl
        · exact ho a (by simp [ha])
        · exact hl
      · intro c
        rw [any_snoc,any_snoc,Bool.or_assoc]
        congr 1
        simp only [within]
        rw [Bool.eq_iff_iff]
        simp only [Bool.and_eq_true,Bool.or_eq_true,decide_eq_true_eq]
        omega
    · rw [meld_out i l x h]
      refine ⟨⟨?_,?_⟩,?_,?_⟩
      · rw [List.pairwise_append]
        refine ⟨by rw [List.pairwise_append];exact ⟨p1,by simp,p3⟩,by simp,fun a ha b hb=>?_⟩
        simp at hb
        subst hb
        simp only [List.mem_append,List.mem_singleton] at ha
        rcases ha with ha | rfl
        · have:=p3 a ha l (by simp);omega
        · omega
      · intro a ha
        simp only [List.mem_append,List.mem_singleton] at ha
        rcases ha with (ha | rfl) | rfl
        · exact hn a (by simp [ha])
        · exact hl2
        · exact hx
      · intro a ha
        simp only [List.mem_append,List.mem_singleton] at ha
        rcases ha with (ha | rfl) | rfl
        · exact ho a (by simp [ha])
        · exact hl
        · exact Nat.le_refl _
      · intro c
        rw [any_snoc]
def melds (l:List (Nat × Nat)):List (Nat × Nat):=l.foldl meld []
theorem melds_snoc (l:List (Nat × Nat)) (x:Nat × Nat):melds (l ++ [x])=meld (melds l) x:=by simp [melds]
theorem melds_sep (l:List (Nat × Nat)):∀ (k:Nat),k≤l.length→l.Pairwise (fun a b=>a.1≤b.1)→(∀ a ∈ l,a.1≤a.2) →
    Sep (melds (l.take k))∧(∀ a ∈ melds (l.take k),∀ b ∈ l.drop k,a.1≤b.1)∧∀ c,(melds (l.take k)).any (within c)=(l.take k).any (within c)
  | 0,_,_,_=>by simp [melds,Sep]
  | k + 1,hk,hp,hn=>by
    obtain ⟨h1,h2,h3⟩:=melds_sep l k (by omega) hp hn
    have hx:=List.getElem?_eq_getElem (show k < l.length by omega)
    have et:l.take (k + 1)=l.take k ++ [l[k]]:=by rw [List.take_add_one,hx];rfl
    have ed:l.drop k=l[k] :: l.drop (k + 1):=List.drop_eq_getElem_cons (by omega)
    obtain ⟨m1,m2,m3⟩:=meld_sep (x:=l[k]) h1 (fun a ha=>h2 a ha _ (ed ▸ List.mem_cons_self)) (hn _ (List.getElem_mem _))
    rw [et,melds_snoc]
    refine ⟨m1,?_,fun c=>by rw [m3,h3,any_snoc]⟩
    intro a ha b hb
    have h4:=m2 a ha
    have h5:(l.drop k).Pairwise (fun a b=>a.1≤b.1):=hp.sublist (List.drop_sublist _ _)
    rw [ed,List.pairwise_cons] at h5
    have:=h5.1 b hb
    omega
def ahead (l:List (Nat × Nat)) (c:Int):Nat:=l.countP fun a=>decide ((a.2:Int) < c)
theorem sep_mono {l:List (Nat × Nat)} (h:Sep l) {i j:Nat} {a b:Nat × Nat} (hij:i≤j) (ha:l[i]?=some a) (hb:l[j]?=some b):a.1≤b.1∧a.2≤b.2:=by
  rcases Nat.lt_or_ge i j with hlt | hge
  · obtain ⟨h1,e1⟩:=List.getElem?_eq_some_iff.1 ha
    obtain ⟨h2,e2⟩:=List.getElem?_eq_some_iff.1 hb
    have hp:=List.pairwise_iff_getElem.1 h.1 i j h1 h2 hlt
    have ha':=h.2 a (e1 ▸ List.getElem_mem _)
    have hb':=h.2 b (e2 ▸ List.getElem_mem _)
    rw [e1,e2] at hp
    omega
  · have e:i=j:=by omega
    subst e
    rw [ha] at hb
    cases hb
    omega
theorem sep_any {l:List (Nat × Nat)} (h:Sep l) (c:Int) (i:Nat) (hi:∀ j a,j < i→l[j]?=some a→(a.2:Int) < c) (hi2:∀ a,l[i]?=some a→c≤(a.2:Int)) :
    l.any (within c)=match l[i]? with | some a=>decide ((a.1:Int)≤c) | none=>false:=by
  cases hx:l[i]? with
  | none =>
    simp only
    rw [List.any_eq_false]
    intro a ha
    obtain ⟨j,hj⟩:=List.getElem?_of_mem ha
    have hl:l.length≤i:=List.getElem?_eq_none_iff.1 hx
    obtain ⟨h1,_⟩:=List.getElem?_eq_some_iff.1 hj
    have:=hi j a (by omega) hj
    simp only [within,Bool.and_eq_true,decide_eq_true_eq]
    omega
  | some a =>
    have h2:=hi2 a hx
    simp only
    by_cases hc:(a.1:Int)≤c
    · rw [decide_eq_true hc,List.any_eq_true]
      exact ⟨a,List.mem_of_getElem? hx,by simp [within,hc,h2]⟩
    · rw [decide_eq_false hc,List.any_eq_false]
      intro b hb
      obtain ⟨j,hj⟩:=List.getElem?_of_mem hb
      simp only [within,Bool.and_eq_true,decide_eq_true_eq]
      rcases Nat.lt_or_ge j i with hlt | hge
      · have:=hi j b hlt hj
        omega
      · have:=sep_mono h hge hx hj
        omega
end G
end Go.Proofs.YtpgcidpghmoibaaGreatDoor

namespace Go.Proofs.YtpgcidpghmoibaaGreatDoor
open Go
section
variable {P:Program} (w:World)
theorem run_append_split (t ty:TypeId) (base:Nat) (e:TypeId) (i:TypeInfo) (z:Value) (size bytes:Nat) (ht:P.underlying t=some (.slice e)) (hi:P.info? e=some i) (hz:i.zero=some z)
    (hsize:i.size=size) (hby:i.bytes=bytes) (hzs:z.cells.size=size) (hsz:0 < size)
    (v:Value) (n:Nat) (xs:List Value) (hown:w.ownsRow base e size v n xs)
    (a:Addr) (m c:Nat) (news:List Value) (hl:news.length=m * size) (hnews:∀ j u,news[j]?=some u→w.cell? (a.add j)=some u) (h1:∀ u ∈ news,u.oneCell'=true)
    (hm:0 < m) (h63:n + m≤maxLen) (hbytes:(n + m) * bytes≤140737488355328) (hbase:base≤w.heap.size) :
    ∃ v' w',(Builtin.append_ #[t,t] ty #[v,.slice (some a) m c]).run P w=.ok v' w'∧w'.ownsRow base e size v' (n + m) (xs ++ news)∧w.grownBy w' v.ownBlock ∧
      ((∃ g cap,v=.slice (some ⟨g,0,none⟩) n cap∧v'=.slice (some ⟨g,0,none⟩) (n + m) cap) ∨ (v'.ownBlock=some w.heap.size∧w.grownBy w' none)):=by
  obtain ⟨v',w',hr,h2,h3,_,h5⟩:=run_append_own_at (P:=P) w base t ty e i z size bytes ht hi hz hsize hby hzs hsz v n xs hown a m c news hl hnews h1 h63 hbytes hbase
  refine ⟨v',w',hr,h2,h3,?_⟩
  rcases hown.2 with ⟨rfl,rfl⟩ | ⟨g,cap,cur,rfl,hbg,hg,hnc,hcm,hcs,htake⟩
  · right
    rcases h5 with h5 | h5
    · rcases h2.2 with ⟨_,h0⟩ | ⟨g,cap,cur,rfl,_⟩
      · omega
      · simp [Value.ownBlock] at h5
    · exact ⟨h5,h3⟩
  · by_cases hroom:n + m≤cap
    · left
      have hfit:n * i.size + news.length≤cur.size:=by rw [hl,hcs,hsize,← Nat.add_mul];exact Nat.mul_le_mul_right _ hroom
      have hr2:=run_append_room (P:=P) w t ty e i ht hi g n cap cur hg a m c news (by rw [hsize];exact hl) hnews h1 hroom hfit
      rw [hr2] at hr
      simp only [Result.ok.injEq] at hr
      exact ⟨g,cap,rfl,hr.1.symm⟩
    · right
      have holds:∀ j u,xs[j]?=some u→w.cell? ((⟨g,0,none⟩:Addr).add j)=some u:=hown.cells (g:=g) rfl
      obtain ⟨v2,w2,hr2,q2,q3⟩:=run_append_arg_grows (P:=P) w t ty e i z size bytes ht hi hz hsize hby hzs hsz ⟨g,0,none⟩ n cap xs hown.1 holds a m c news hl hnews (by omega) h63 hbytes
      rw [hr2] at hr
      simp only [Result.ok.injEq] at hr
      obtain ⟨rfl,rfl⟩:=hr
      refine ⟨?_,q3⟩
      rcases h5 with h5 | h5
      · exfalso
        have hlt:g < w.heap.size:=by
          rcases Nat.lt_or_ge g w.heap.size with hlt | hge
          · exact hlt
          · rw [Array.getElem?_eq_none hge] at hg;cases hg
        have:=(q2.lt g (by rw [h5];rfl)).1
        omega
      · exact h5
theorem wp_append_split {o:Oper} {a:Act} {K:Act→World→Prop} {Q:Exit→Act→World→Prop} (s x:Operand) (t:TypeId)
    (ho:o.op=.call { callee:=.builtin .append,args:=#[s,x],argTypes:=#[t,t] })
    (base:Nat) (e:TypeId) (i:TypeInfo) (z:Value) (size bytes:Nat) (ht:P.underlying t=some (.slice e)) (hi:P.info? e=some i) (hz:i.zero=some z)
    (hsize:i.size=size) (hby:i.bytes=bytes) (hzs:z.cells.size=size) (hsz:0 < size)
    (v:Value) (n:Nat) (xs:List Value) (hs:a.eval s=v) (hown:w.ownsRow base e size v n xs)
    (ad:Addr) (m c:Nat) (news:List Value) (hx:a.eval x=.slice (some ad) m c) (hl:news.length=m * size) (hnews:∀ j u,news[j]?=some u→w.cell? (ad.add j)=some u) (h1:∀ u ∈ news,u.oneCell'=true)
    (hm:0 < m) (h63:n + m≤maxLen) (hbytes:(n + m) * bytes≤140737488355328) (hbase:base≤w.heap.size)
    (h:∀ v' w',w'.ownsRow base e size v' (n + m) (xs ++ news)→w.grownBy w' v.ownBlock→((∃ g cap,v=.slice (some ⟨g,0,none⟩) n cap∧v'=.slice (some ⟨g,0,none⟩) (n + m) cap) ∨ (v'.ownBlock=some w.heap.size∧w.grownBy w' none))→K (a.put o.dst v') w'):o.wp P a w K Q:=by
  obtain ⟨v',w',hr,h2,h3,h4⟩:=run_append_split (P:=P) w t o.type base e i z size bytes ht hi hz hsize hby hzs hsz v n xs hown ad m c news hl hnews h1 hm h63 hbytes hbase
  unfold Oper.wp execOp
  simp only [ho,resolve,invoke,builtin,Sem.run_bind,Sem.run_pure,Result.andThen_ok,List.map_toArray,List.map_cons,List.map_nil,hs,hx,hr]
  exact h v' w' h2 h3 h4
theorem wpList_append_split {ops:Array Oper} {rest:List Oper} {o:Oper} {a:Act} {Q:Exit→Act→World→Prop} (hgd:o.guard=none) (s x:Operand) (t:TypeId)
    (ho:o.op=.call { callee:=.builtin .append,args:=#[s,x],argTypes:=#[t,t] })
    (base:Nat) (e:TypeId) (i:TypeInfo) (z:Value) (size bytes:Nat) (ht:P.underlying t=some (.slice e)) (hi:P.info? e=some i) (hz:i.zero=some z)
    (hsize:i.size=size) (hby:i.bytes=bytes) (hzs:z.cells.size=size) (hsz:0 < size)
    (v:Value) (n:Nat) (xs:List Value) (hs:a.eval s=v) (hown:w.ownsRow base e size v n xs)
    (ad:Addr) (m c:Nat) (news:List Value) (hx:a.eval x=.slice (some ad) m c) (hl:news.length=m * size) (hnews:∀ j u,news[j]?=some u→w.cell? (ad.add j)=some u) (h1:∀ u ∈ news,u.oneCell'=true)
    (hm:0 < m) (h63:n + m≤maxLen) (hbytes:(n + m) * bytes≤140737488355328) (hbase:base≤w.heap.size)
    (h:∀ v' w',w'.ownsRow base e size v' (n + m) (xs ++ news)→w.grownBy w' v.ownBlock→((∃ g cap,v=.slice (some ⟨g,0,none⟩) n cap∧v'=.slice (some ⟨g,0,none⟩) (n + m) cap) ∨ (v'.ownBlock=some w.heap.size∧w.grownBy w' none))→wpList P ops Q rest (a.put o.dst v') w'):wpList P ops Q (o :: rest) a w:=
  wpList_plain hgd fun _ hK=>wp_append_split w s x t ho base e i z size bytes ht hi hz hsize hby hzs hsz v n xs hs hown ad m c news hx hl hnews h1 hm h63 hbytes hbase fun v' w' h2 h3 h4=>hK _ _ (h v' w' h2 h3 h4)
end
end Go.Proofs.YtpgcidpghmoibaaGreatDoor

namespace Go.Proofs.YtpgcidpghmoibaaGreatDoor
namespace Rf
open Go.RowKit
theorem infoInt:(Tryz.prog.info? 3).map (fun i=>(i.zero,i.size,i.bytes))=some (some (.int .i64 0),1,8):=by kernel_rfl
theorem own_same {w w':World} {e size n:Nat} {v:Value} {xs:List Value} (h:w.ownsRow 0 e size v n xs) (hk:∀ k,v.ownBlock=some k→w'.heap[k]?=w.heap[k]?):w'.ownsRow 0 e size v n xs:=by
  obtain ⟨h1,h2⟩:=h
  refine ⟨h1,?_⟩
  rcases h2 with h2 | ⟨g,cap,cur,rfl,h3,h4,h5⟩
  · exact .inl h2
  · exact .inr ⟨g,cap,cur,rfl,h3,by rw [hk g rfl];exact h4,h5⟩
theorem own_zero {w:World} {b e size n:Nat} {v:Value} {xs:List Value} (h:w.ownsRow b e size v n xs):w.ownsRow 0 e size v n xs:=by
  obtain ⟨h1,h2⟩:=h
  refine ⟨h1,?_⟩
  rcases h2 with h2 | ⟨g,cap,cur,rfl,h3,h4,h5⟩
  · exact .inl h2
  · exact .inr ⟨g,cap,cur,rfl,Nat.zero_le _,h4,h5⟩
theorem own_len {w:World} {b e size n:Nat} {v:Value} {xs:List Value} (h:w.ownsRow b e size v n xs):∃ a c,v=.slice a n c:=by
  rcases h.2 with ⟨rfl,rfl⟩ | ⟨g,cap,_,rfl,_⟩
  · exact ⟨_,_,rfl⟩
  · exact ⟨_,_,rfl⟩
structure Kept (p:Nat→Prop) (w w':World):Prop where
  os:w'.os=w.os
  tape:w'.tape=w.tape
  output:w'.output=w.output
  size:w.heap.size≤w'.heap.size
  block:∀ k,k < w.heap.size→p k→w'.heap[k]?=w.heap[k]?
theorem Kept.refl (p:Nat→Prop) (w:World):Kept p w w:=⟨rfl,rfl,rfl,Nat.le_refl _,fun _ _ _=>rfl⟩
theorem Kept.trans {p:Nat→Prop} {a b c:World} (h:Kept p a b) (k:Kept p b c):Kept p a c:=
  ⟨k.os.trans h.os,k.tape.trans h.tape,k.output.trans h.output,Nat.le_trans h.size k.size,fun i hi hp=>(k.block i (Nat.lt_of_lt_of_le hi h.size) hp).trans (h.block i hi hp)⟩
theorem Kept.trans' {p q:Nat→Prop} {a b c:World} (h:Kept p a b) (k:Kept q b c) (hq:∀ i,i < a.heap.size→p i→q i):Kept p a c:=
  ⟨k.os.trans h.os,k.tape.trans h.tape,k.output.trans h.output,Nat.le_trans h.size k.size,fun i hi hp=>(k.block i (Nat.lt_of_lt_of_le hi h.size) (hq i hi hp)).trans (h.block i hi hp)⟩
theorem Kept.mono {p q:Nat→Prop} {a b:World} (h:Kept p a b) (hq:∀ k,k < a.heap.size→q k→p k):Kept q a b:=⟨h.os,h.tape,h.output,h.size,fun k hk hp=>h.block k hk (hq k hk hp)⟩
theorem Kept.alloc {p:Nat→Prop} {a w:World} (h:Kept p a w) (o:Obj):Kept p a (w.alloc o):=
  h.trans ⟨rfl,rfl,rfl,by simp,fun k hk _=>Below.heap_alloc _ _ _ hk⟩
theorem Kept.drew {p:Nat→Prop} {a w:World} (h:Kept p a w):Kept p a w.drew:=⟨h.os,h.tape,h.output,h.size,h.block⟩
theorem Kept.drewN {p:Nat→Prop} {a w:World} (h:Kept p a w) (n:Nat):Kept p a (w.drewN n):=h.trans ⟨rfl,rfl,rfl,Nat.le_refl _,fun _ _ _=>rfl⟩
theorem Kept.setCell {p:Nat→Prop} {a w:World} (h:Kept p a w) {q:Addr} (hq:¬ p q.block) (u:Value):Kept p a (w.setCell q u):=
  h.trans ⟨rfl,rfl,rfl,by simp [World.setCell],fun k _ hp=>Below.heap_setCell _ _ _ _ (fun e=>hq (e ▸ hp))⟩
theorem Kept.setNew {p:Nat→Prop} {a w:World} (h:Kept p a w) {q:Addr} (hq:a.heap.size≤q.block) (u:Value):Kept p a (w.setCell q u):=
  ⟨h.os,h.tape,h.output,by simpa [World.setCell] using h.size,fun k hk hp=>(Below.heap_setCell _ _ _ _ (fun e=>by omega)).trans (h.block k hk hp)⟩
theorem Kept.grown {p:Nat→Prop} {a w w':World} {row:Option Nat} (h:Kept p a w) (hg:w.grownBy w' row) (hr:∀ k,row=some k→k < a.heap.size→¬ p k):Kept p a w':=
  ⟨hg.os.trans h.os,hg.tape.trans h.tape,hg.output.trans h.output,Nat.le_trans h.size hg.size,fun k hk hp=>(hg.block k (Nat.lt_of_lt_of_le hk h.size) (fun e=>hr k e.symm hk hp)).trans (h.block k hk hp)⟩
theorem Kept.of_below {p:Nat→Prop} {a w:World} (h:Below a.heap.size a w):Kept p a w:=⟨h.os,h.tape,h.output,h.size,fun k hk _=>h.block k hk⟩
theorem Kept.all {a w:World} (h:Kept (fun _=>True) a w):Below a.heap.size a w:=⟨h.os,h.tape,h.output,h.size,fun k hk=>h.block k hk trivial⟩
theorem cell_blk {w:World} {b:Nat} {cs:Array Value} {t:TypeId} (h:w.heap[b]?=some (.cells cs t (0,0))) (i:Nat) (v:Value) (hv:cs[i]?=some v):w.cell? ⟨b,i,none⟩=some v:=by
  simp [World.cell?,h,hv]
theorem free_blk {w:World} {b:Nat} {cs:Array Value} {t:TypeId} (h:w.heap[b]?=some (.cells cs t (0,0))) (i:Nat):w.frozen? ⟨b,i,none⟩=false:=by
  simp [World.frozen?,h]
theorem blk_set {w:World} {b:Nat} {cs:Array Value} {t:TypeId} (h:w.heap[b]?=some (.cells cs t (0,0))) (o:Nat) (v:Value) :
    (w.setCell ⟨b,o,none⟩ v).heap[b]?=some (.cells (cs.setIfInBounds o v) t (0,0)):=by
  simp only [World.setCell,Array.getElem?_modify,h]
  simp
theorem blk_ne {w:World} {b k o:Nat} (v:Value) (h:k ≠ b):(w.setCell ⟨b,o,none⟩ v).heap[k]?=w.heap[k]?:=Below.heap_setCell _ _ _ _ h
theorem blk_alloc {w:World} {k:Nat} {x:Obj} (o:Obj) (h:w.heap[k]?=some x):(w.alloc o).heap[k]?=some x:=
  (Below.heap_alloc _ _ _ (lt_of_block h)).trans h
def Apart (u v:Value):Prop:=∀ k,u.ownBlock=some k→v.ownBlock=some k→False
theorem Apart.symm {u v:Value} (h:Apart u v):Apart v u:=fun k a b=>h k b a
def Lies (w:World) (u v:Value):Prop:=∀ k,v.ownBlock=some k→u.ownBlock=some k ∨ w.heap.size≤k
theorem lies_of {w:World} {u:Value} {g n cap H:Nat} (h:u.ownBlock=some g ∨ g=H) (hH:w.heap.size≤H):Lies w u (.slice (some ⟨g,0,none⟩) n cap):=by
  intro k hk
  have e:g=k:=by simpa [Value.ownBlock] using hk
  subst e
  rcases h with h | h
  · exact .inl h
  · exact .inr (by omega)
end Rf
end Go.Proofs.YtpgcidpghmoibaaGreatDoor
