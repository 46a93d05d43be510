/-
  PLAIN FACTS ON TEXTS, without the program
  THE FORM OF RULES, without the program
-/
import Derived.Laws.RangeAny
namespace Go.Proofs.YtpgcidpghmoibaaGreatDoor
namespace U
def at' (s:ByteArray) (i:Nat):Nat:=(s.get! i).toNat
theorem at_get (s:ByteArray) (i:Nat) (h:i < s.size):(s[i]'h).toNat=at' s i:=by
  have:=get_at s i h
  unfold at'
  rw [← this];rfl
theorem at_lt (s:ByteArray) (i:Nat):at' s i < 256:=(s.get! i).toNat_lt
def tl (s:ByteArray) (i:Nat):Bool:=decide (i < s.size) && decide (128≤at' s i) && decide (at' s i < 192)
theorem tl_iff (s:ByteArray) (i:Nat):tl s i=true ↔ i < s.size∧128≤at' s i∧at' s i < 192:=by
  simp [tl,and_assoc]
theorem cont_eq (s:ByteArray) (i k:Nat):(decide (i + k < s.size) && (s.get! (i + k)).toNat / 64 == 2)=tl s (i + k):=by
  rw [Bool.eq_iff_iff,tl_iff]
  have:=at_lt s (i + k)
  simp only [at'] at *
  simp
  omega
theorem valid_iff (c:Nat):Utf8.valid (c:Int)=true ↔ (c < 55296 ∨ (57344≤c∧c≤1114111)):=by
  simp [Utf8.valid];omega
theorem decode_eq (s:ByteArray) (i:Nat):Utf8.decode s i =
    if at' s i < 128 then (at' s i,1)
    else if (at' s i / 32 == 6 && tl s (i + 1))=true then (if at' s i % 32 * 64 + at' s (i + 1) % 64 ≥ 128 then (at' s i % 32 * 64 + at' s (i + 1) % 64,2) else (Utf8.runeError,1))
    else if (at' s i / 16 == 14 && tl s (i + 1) && tl s (i + 2))=true then (if (decide (at' s i % 16 * 4096 + at' s (i + 1) % 64 * 64 + at' s (i + 2) % 64 ≥ 2048) && Utf8.valid ((at' s i % 16 * 4096 + at' s (i + 1) % 64 * 64 + at' s (i + 2) % 64:Nat):Int))=true then (at' s i % 16 * 4096 + at' s (i + 1) % 64 * 64 + at' s (i + 2) % 64,3) else (Utf8.runeError,1))
    else if (at' s i / 8 == 30 && tl s (i + 1) && tl s (i + 2) && tl s (i + 3))=true then (if (decide (at' s i % 8 * 262144 + at' s (i + 1) % 64 * 4096 + at' s (i + 2) % 64 * 64 + at' s (i + 3) % 64 ≥ 65536) && Utf8.valid ((at' s i % 8 * 262144 + at' s (i + 1) % 64 * 4096 + at' s (i + 2) % 64 * 64 + at' s (i + 3) % 64:Nat):Int))=true then (at' s i % 8 * 262144 + at' s (i + 1) % 64 * 4096 + at' s (i + 2) % 64 * 64 + at' s (i + 3) % 64,4) else (Utf8.runeError,1))
    else (Utf8.runeError,1):=by
  rw [← cont_eq,← cont_eq,← cont_eq]
  rfl
theorem dec1 (s:ByteArray) (i:Nat) (h:at' s i < 128):Utf8.decode s i=(at' s i,1):=by
  rw [decode_eq,if_pos h]
theorem decBad (s:ByteArray) (i:Nat) (h:128≤at' s i) (h2:at' s i < 192 ∨ 248≤at' s i):Utf8.decode s i=(65533,1):=by
  rw [decode_eq,if_neg (by omega),if_neg,if_neg,if_neg]
  · rfl
  all_goals
    simp only [Bool.and_eq_true,beq_iff_eq]
    have:=at_lt s i
    omega
theorem dec2 (s:ByteArray) (i:Nat) (h:192≤at' s i) (h2:at' s i < 224) :
    Utf8.decode s i=if tl s (i + 1)=true∧128≤64 * (at' s i - 192) + at' s (i + 1) - 128 then (64 * (at' s i - 192) + at' s (i + 1) - 128,2) else (65533,1):=by
  rw [decode_eq,if_neg (by omega)]
  have e6:(at' s i / 32 == 6)=true:=by simp;omega
  have e14:(at' s i / 16 == 14)=false:=by simp;omega
  have e30:(at' s i / 8 == 30)=false:=by simp;omega
  simp only [e6,e14,e30,Bool.true_and,Bool.false_and]
  by_cases ht:tl s (i + 1)=true
  · have:=(tl_iff s (i + 1)).1 ht
    rw [if_pos ht]
    have e:at' s i % 32 * 64 + at' s (i + 1) % 64=64 * (at' s i - 192) + at' s (i + 1) - 128:=by omega
    rw [e]
    simp [ht,Utf8.runeError]
  · simp [ht,Utf8.runeError]
theorem dec3 (s:ByteArray) (i:Nat) (h:224≤at' s i) (h2:at' s i < 240) :
    Utf8.decode s i=if (tl s (i + 1)=true∧tl s (i + 2)=true)∧(2048≤64 * (64 * (at' s i - 224) + at' s (i + 1) - 128) + at' s (i + 2) - 128∧(64 * (64 * (at' s i - 224) + at' s (i + 1) - 128) + at' s (i + 2) - 128 < 55296 ∨ 57344≤64 * (64 * (at' s i - 224) + at' s (i + 1) - 128) + at' s (i + 2) - 128)) then (64 * (64 * (at' s i - 224) + at' s (i + 1) - 128) + at' s (i + 2) - 128,3) else (65533,1):=by
  rw [decode_eq,if_neg (by omega)]
  have e6:(at' s i / 32 == 6)=false:=by simp;omega
  have e14:(at' s i / 16 == 14)=true:=by simp;omega
  have e30:(at' s i / 8 == 30)=false:=by simp;omega
  simp only [e6,e14,e30,Bool.true_and,Bool.false_and]
  by_cases ht:tl s (i + 1)=true∧tl s (i + 2)=true
  · have h1:=(tl_iff s (i + 1)).1 ht.1
    have h2:=(tl_iff s (i + 2)).1 ht.2
    have e:at' s i % 16 * 4096 + at' s (i + 1) % 64 * 64 + at' s (i + 2) % 64=64 * (64 * (at' s i - 224) + at' s (i + 1) - 128) + at' s (i + 2) - 128:=by omega
    simp only [e,ht.1,ht.2,Bool.and_self,if_true]
    have hv:∀ c:Nat,c≤1114111→((decide (c ≥ 2048) && Utf8.valid (c:Int))=true ↔ (2048≤c∧(c < 55296 ∨ 57344≤c))):=by
      intro c hc
      rw [Bool.and_eq_true,valid_iff];simp;omega
    have hc:64 * (64 * (at' s i - 224) + at' s (i + 1) - 128) + at' s (i + 2) - 128≤1114111:=by omega
    simp [hv _ hc,Utf8.runeError]
  · have:(tl s (i + 1) && tl s (i + 2))=false:=by
      rw [Bool.eq_false_iff];simpa using ht
    simp [this,ht,Utf8.runeError]
theorem dec4 (s:ByteArray) (i:Nat) (h:240≤at' s i) (h2:at' s i < 248) :
    Utf8.decode s i=if (tl s (i + 1)=true∧tl s (i + 2)=true∧tl s (i + 3)=true)∧(65536≤64 * (64 * (64 * (at' s i - 240) + at' s (i + 1) - 128) + at' s (i + 2) - 128) + at' s (i + 3) - 128∧64 * (64 * (64 * (at' s i - 240) + at' s (i + 1) - 128) + at' s (i + 2) - 128) + at' s (i + 3) - 128≤1114111) then (64 * (64 * (64 * (at' s i - 240) + at' s (i + 1) - 128) + at' s (i + 2) - 128) + at' s (i + 3) - 128,4) else (65533,1):=by
  rw [decode_eq,if_neg (by omega)]
  have e6:(at' s i / 32 == 6)=false:=by simp;omega
  have e14:(at' s i / 16 == 14)=false:=by simp;omega
  have e30:(at' s i / 8 == 30)=true:=by simp;omega
  simp only [e6,e14,e30,Bool.true_and,Bool.false_and]
  by_cases ht:tl s (i + 1)=true∧tl s (i + 2)=true∧tl s (i + 3)=true
  · have h1:=(tl_iff s (i + 1)).1 ht.1
    have h2:=(tl_iff s (i + 2)).1 ht.2.1
    have h3:=(tl_iff s (i + 3)).1 ht.2.2
    have e:at' s i % 8 * 262144 + at' s (i + 1) % 64 * 4096 + at' s (i + 2) % 64 * 64 + at' s (i + 3) % 64=64 * (64 * (64 * (at' s i - 240) + at' s (i + 1) - 128) + at' s (i + 2) - 128) + at' s (i + 3) - 128:=by omega
    simp only [e,ht.1,ht.2.1,ht.2.2,Bool.and_self,if_true]
    have hv:∀ c:Nat,((decide (c ≥ 65536) && Utf8.valid (c:Int))=true ↔ (65536≤c∧c≤1114111)):=by
      intro c
      rw [Bool.and_eq_true,valid_iff];simp;omega
    simp [hv,Utf8.runeError]
  · have:(tl s (i + 1) && tl s (i + 2) && tl s (i + 3))=false:=by
      rw [Bool.eq_false_iff]
      simp only [Bool.and_eq_true,ne_eq]
      intro h;exact ht ⟨h.1.1,h.1.2,h.2⟩
    simp [this,ht,Utf8.runeError]
theorem width (s:ByteArray) (i:Nat) (h:i < s.size):1≤(Utf8.decode s i).2∧i + (Utf8.decode s i).2≤s.size:=by
  by_cases h1:at' s i < 128
  · rw [dec1 s i h1];simp;omega
  by_cases h2:at' s i < 192 ∨ 248≤at' s i
  · rw [decBad s i (by omega) h2];simp;omega
  by_cases h3:at' s i < 224
  · rw [dec2 s i (by omega) h3];split
    · rename_i hc;have:=(tl_iff _ _).1 hc.1;simp;omega
    · simp;omega
  by_cases h4:at' s i < 240
  · rw [dec3 s i (by omega) h4];split
    · rename_i hc;have:=(tl_iff _ _).1 hc.1.2;simp;omega
    · simp;omega
  · rw [dec4 s i (by omega) (by omega)];split
    · rename_i hc;have:=(tl_iff _ _).1 hc.1.2.2;simp;omega
    · simp;omega
theorem rune_le (s:ByteArray) (i:Nat):(Utf8.decode s i).1≤1114111:=by
  by_cases h1:at' s i < 128
  · rw [dec1 s i h1];simp;omega
  by_cases h2:at' s i < 192 ∨ 248≤at' s i
  · rw [decBad s i (by omega) h2];simp
  by_cases h3:at' s i < 224
  · rw [dec2 s i (by omega) h3];have:=at_lt s (i + 1);split <;> simp;omega
  by_cases h4:at' s i < 240
  · rw [dec3 s i (by omega) h4];have:=at_lt s (i + 1);have:=at_lt s (i + 2);split <;> simp;omega
  · rw [dec4 s i (by omega) (by omega)];split
    · rename_i hc;simp;omega
    · simp
def go (s:ByteArray):Nat→Nat→List (Nat × Nat)
  | 0,_=>[]
  | f + 1,p=>if p < s.size then ((Utf8.decode s p).1,p) :: go s f (p + (Utf8.decode s p).2) else []
theorem go_more (s:ByteArray):∀ (f g p:Nat),s.size - p≤f→s.size - p≤g→go s f p=go s g p
  | 0,0,_,_,_=>rfl
  | 0,g + 1,p,h,_=>by simp [go];omega
  | f + 1,0,p,_,h=>by simp [go];omega
  | f + 1,g + 1,p,hf,hg=>by
    simp only [go]
    split
    · rename_i hp
      have:=width s p hp
      rw [go_more s f g _ (by omega) (by omega)]
    · rfl
def rest (s:ByteArray) (p:Nat):List (Nat × Nat):=go s s.size p
theorem rest_end (s:ByteArray) (p:Nat) (h:s.size≤p):rest s p=[]:=by
  unfold rest
  rw [go_more s s.size 0 p (by omega) (by omega)];rfl
theorem rest_step (s:ByteArray) (p:Nat) (h:p < s.size):rest s p=((Utf8.decode s p).1,p) :: rest s (p + (Utf8.decode s p).2):=by
  unfold rest
  have:=width s p h
  rw [go_more s s.size (s.size + 1) p (by omega) (by omega)]
  simp only [go,if_pos h]
theorem go_length (s:ByteArray):∀ (f p:Nat),(go s f p).length≤f
  | 0,_=>by simp [go]
  | f + 1,p=>by
    simp only [go];split
    · simp;exact go_length s f _
    · simp
theorem rest_length (s:ByteArray) (p:Nat):(rest s p).length≤s.size:=go_length s _ p
theorem go_runes (s:ByteArray):∀ (f p:Nat),∀ x ∈ go s f p,x.1≤1114111∧x.2 < s.size
  | 0,_,x,hx=>by simp [go] at hx
  | f + 1,p,x,hx=>by
    simp only [go] at hx
    split at hx
    · rename_i hp
      rcases List.mem_cons.1 hx with rfl | h
      · exact ⟨rune_le s p,hp⟩
      · exact go_runes s f _ x h
    · simp at hx
def units (s:ByteArray):List (Nat × Nat):=rest s 0
theorem units_length (s:ByteArray):(units s).length≤s.size:=rest_length s 0
theorem units_bound (s:ByteArray):∀ x ∈ units s,x.1≤1114111∧x.2 < s.size:=go_runes s _ 0
def Upto (s:ByteArray) (p:Nat) (l:List (Nat × Nat)):Prop:=p≤s.size∧l ++ rest s p=units s
theorem Upto.zero (s:ByteArray):Upto s 0 []:=⟨Nat.zero_le _,rfl⟩
theorem Upto.step {s:ByteArray} {p:Nat} {l:List (Nat × Nat)} (h:Upto s p l) (hp:p < s.size):Upto s (p + (Utf8.decode s p).2) (l ++ [((Utf8.decode s p).1,p)]):=by
  refine ⟨(width s p hp).2,?_⟩
  rw [List.append_assoc,← h.2,rest_step s p hp];rfl
theorem Upto.done {s:ByteArray} {p:Nat} {l:List (Nat × Nat)} (h:Upto s p l) (hp:s.size≤p):l=units s:=by
  rw [← h.2,rest_end s p hp,List.append_nil]
theorem Upto.length {s:ByteArray} {p:Nat} {l:List (Nat × Nat)} (h:Upto s p l):l.length≤s.size:=by
  have:=units_length s
  rw [← h.2,List.length_append] at this;omega
def runes32 (l:List (Nat × Nat)):List Value:=l.map fun x=>.int .i32 x.1
def runes64 (l:List (Nat × Nat)):List Value:=l.map fun x=>.int .i64 x.1
def starts64 (l:List (Nat × Nat)):List Value:=l.map fun x=>.int .i64 x.2
end U
end Go.Proofs.YtpgcidpghmoibaaGreatDoor

namespace Go.Proofs.YtpgcidpghmoibaaGreatDoor
namespace G
def pk (s:ByteArray) (i:Nat):Int:=if i < s.size then (U.at' s i:Int) else -1
theorem pk_lt {s:ByteArray} {i:Nat} (h:i < s.size):pk s i=(U.at' s i:Int):=by simp [pk,h]
theorem pk_ge {s:ByteArray} {i:Nat} (h:¬ i < s.size):pk s i=-1:=by simp [pk,h]
theorem pk_bd (s:ByteArray) (i:Nat):-1≤pk s i∧pk s i < 256:=by
  unfold pk
  have:=U.at_lt s i
  split <;> omega
theorem lt_of_pk {s:ByteArray} {i:Nat} (h:0≤pk s i):i < s.size:=by
  unfold pk at h
  split at h
  · assumption
  · omega
def com (s:ByteArray) (i:Nat):Nat:=if i < s.size∧U.at' s i ≠ 10 then com s (i + 1) else i
termination_by s.size - i
theorem com_step {s:ByteArray} {i:Nat} (h:i < s.size) (h2:U.at' s i ≠ 10):com s i=com s (i + 1):=by
  rw [com,if_pos ⟨h,h2⟩]
theorem com_end {s:ByteArray} {i:Nat} (h:¬ (i < s.size∧U.at' s i ≠ 10)):com s i=i:=by
  rw [com,if_neg h]
theorem com_ge (s:ByteArray):∀ (n i:Nat),s.size - i≤n→i≤com s i
  | 0,i,h=>by rw [com_end (by omega)];omega
  | n + 1,i,h=>by
    by_cases hc:i < s.size∧U.at' s i ≠ 10
    · rw [com_step hc.1 hc.2];have:=com_ge s n (i + 1) (by omega);omega
    · rw [com_end hc];omega
theorem com_le (s:ByteArray):∀ (n i:Nat),s.size - i≤n→i≤s.size→com s i≤s.size
  | 0,i,h,hi=>by rw [com_end (by omega)];omega
  | n + 1,i,h,hi=>by
    by_cases hc:i < s.size∧U.at' s i ≠ 10
    · rw [com_step hc.1 hc.2];exact com_le s n (i + 1) (by omega) (by omega)
    · rw [com_end hc];omega
def skip (s:ByteArray) (i:Nat):Nat:=
  if pk s i=35 then skip s (com s (i + 1))
  else if pk s i=32 ∨ pk s i=9 ∨ pk s i=10 then skip s (i + 1)
  else i
termination_by s.size - i
decreasing_by
  · have:=lt_of_pk (s:=s) (i:=i) (by omega);have:=com_ge s _ (i + 1) (Nat.le_refl _);omega
  · have:=lt_of_pk (s:=s) (i:=i) (by omega);omega
theorem skip_com {s:ByteArray} {i:Nat} (h:pk s i=35):skip s i=skip s (com s i):=by
  rw [skip,if_pos h]
  have hl:=lt_of_pk (s:=s) (i:=i) (by omega)
  rw [pk_lt hl] at h
  rw [com_step hl (by omega)]
theorem skip_blank {s:ByteArray} {i:Nat} (h:pk s i=32 ∨ pk s i=9 ∨ pk s i=10):skip s i=skip s (i + 1):=by
  rw [skip,if_neg (by omega),if_pos h]
theorem skip_end {s:ByteArray} {i:Nat} (h0:pk s i ≠ 35) (h:¬ (pk s i=32 ∨ pk s i=9 ∨ pk s i=10)):skip s i=i:=by
  rw [skip,if_neg h0,if_neg h]
theorem skip_bd (s:ByteArray):∀ (n i:Nat),s.size - i≤n→i≤skip s i∧(i≤s.size→skip s i≤s.size)∧pk s (skip s i) ≠ 35∧¬ (pk s (skip s i)=32 ∨ pk s (skip s i)=9 ∨ pk s (skip s i)=10)
  | 0,i,h=>by
    have e:skip s i=i:=skip_end (by rw [pk_ge (by omega)];omega) (by rw [pk_ge (by omega)];omega)
    rw [e]
    exact ⟨Nat.le_refl _,fun h=>h,by rw [pk_ge (by omega)];omega,by rw [pk_ge (by omega)];omega⟩
  | n + 1,i,h=>by
    by_cases h35:pk s i=35
    · have hl:=lt_of_pk (s:=s) (i:=i) (by omega)
      have h10:U.at' s i ≠ 10:=by rw [pk_lt hl] at h35;omega
      have g1:=com_ge s _ (i + 1) (Nat.le_refl _)
      have g2:=com_le s _ (i + 1) (Nat.le_refl _)
      have ih:=skip_bd s n (com s (i + 1)) (by omega)
      rw [skip_com h35,com_step hl h10]
      exact ⟨by omega,fun _=>ih.2.1 (g2 (by omega)),ih.2.2⟩
    · by_cases hb:pk s i=32 ∨ pk s i=9 ∨ pk s i=10
      · have hl:=lt_of_pk (s:=s) (i:=i) (by omega)
        have ih:=skip_bd s n (i + 1) (by omega)
        rw [skip_blank hb]
        exact ⟨by omega,fun _=>ih.2.1 (by omega),ih.2.2⟩
      · rw [skip_end h35 hb]
        exact ⟨Nat.le_refl _,fun h=>h,h35,hb⟩
theorem skip_ge (s:ByteArray) (i:Nat):i≤skip s i:=(skip_bd s _ i (Nat.le_refl _)).1
theorem skip_le (s:ByteArray) (i:Nat) (h:i≤s.size):skip s i≤s.size:=(skip_bd s _ i (Nat.le_refl _)).2.1 h
theorem skip_skip (s:ByteArray) (i:Nat):skip s (skip s i)=skip s i:=
  skip_end (skip_bd s _ i (Nat.le_refl _)).2.2.1 (skip_bd s _ i (Nat.le_refl _)).2.2.2
def low (s:ByteArray) (i:Nat):Bool:=decide (i < s.size) && decide (97≤U.at' s i) && decide (U.at' s i≤122)
theorem low_iff (s:ByteArray) (i:Nat):low s i=true ↔ i < s.size∧97≤U.at' s i∧U.at' s i≤122:=by simp [low,and_assoc]
def wend (s:ByteArray) (i:Nat):Nat:=if low s i=true then wend s (i + 1) else i
termination_by s.size - i
decreasing_by rename_i h;have:=(low_iff s i).1 h;omega
theorem wend_step {s:ByteArray} {i:Nat} (h:low s i=true):wend s i=wend s (i + 1):=by rw [wend,if_pos h]
theorem wend_end {s:ByteArray} {i:Nat} (h:¬ low s i=true):wend s i=i:=by rw [wend,if_neg h]
theorem wend_bd (s:ByteArray):∀ (n i:Nat),s.size - i≤n→i≤wend s i∧(i≤s.size→wend s i≤s.size)
  | 0,i,h=>by
    rw [wend_end (by rw [low_iff];omega)];omega
  | n + 1,i,h=>by
    by_cases hl:low s i=true
    · have:=(low_iff s i).1 hl
      have ih:=wend_bd s n (i + 1) (by omega)
      rw [wend_step hl]
      exact ⟨by omega,fun _=>ih.2 (by omega)⟩
    · rw [wend_end hl];exact ⟨Nat.le_refl _,fun h=>h⟩
theorem wend_ge (s:ByteArray) (i:Nat):i≤wend s i:=(wend_bd s _ i (Nat.le_refl _)).1
theorem wend_le (s:ByteArray) (i:Nat) (h:i≤s.size):wend s i≤s.size:=(wend_bd s _ i (Nat.le_refl _)).2 h
def dig (c:Nat):Nat:=if 48≤c∧c≤57 then c - 48 else if 97≤c∧c≤102 then c - 87 else if 65≤c∧c≤70 then c - 55 else 16
def hexs (s:ByteArray) (i:Nat):Bool:=decide (dig (U.at' s i) < 16) && decide (dig (U.at' s (i + 1)) < 16) && decide (dig (U.at' s (i + 2)) < 16) && decide (dig (U.at' s (i + 3)) < 16)
def hexv (s:ByteArray) (i:Nat):Nat:=4096 * dig (U.at' s i) + 256 * dig (U.at' s (i + 1)) + 16 * dig (U.at' s (i + 2)) + dig (U.at' s (i + 3))
def self (c:Int):Bool:=decide (c=39 ∨ c=92 ∨ c=91 ∨ c=93 ∨ c=45 ∨ c=94)
def esc (s:ByteArray) (i:Nat):Option (Nat × Nat):=
  if self (pk s (i + 1))=true then some ((pk s (i + 1)).toNat,i + 2)
  else if pk s (i + 1)=110 then some (10,i + 2)
  else if pk s (i + 1)=116 then some (9,i + 2)
  else if pk s (i + 1)=117∧i + 6≤s.size∧hexs s (i + 2)=true∧(hexv s (i + 2) < 55296 ∨ 57344≤hexv s (i + 2)) then some (hexv s (i + 2),i + 6)
  else none
def well (s:ByteArray) (i:Nat):Bool:=if U.at' s i < 128 then true else if U.at' s i < 192 ∨ 248≤U.at' s i then false else decide ((Utf8.decode s i).2 ≠ 1)
def chr (s:ByteArray) (a b:Int) (i:Nat):Option (Nat × Nat):=
  if pk s i < 0 ∨ pk s i=a ∨ pk s i=b then none
  else if pk s i=92 then esc s i
  else if well s i=true then some ((Utf8.decode s i).1,i + (Utf8.decode s i).2)
  else none
theorem dig_le (c:Nat):dig c≤16:=by
  unfold dig
  split
  · omega
  · split
    · omega
    · split <;> omega
theorem hexv_le (s:ByteArray) (i:Nat) (h:hexs s i=true):hexv s i≤65535:=by
  simp [hexs] at h
  unfold hexv
  omega
theorem esc_bd {s:ByteArray} {i x j:Nat} (h:esc s i=some (x,j)):i < j∧j≤s.size∧x≤1114111:=by
  unfold esc at h
  split at h
  · rename_i hs
    have h0:0≤pk s (i + 1):=by simp [self] at hs;omega
    have:=lt_of_pk h0
    have hb:=pk_bd s (i + 1)
    simp at h;omega
  · split at h
    · have:=lt_of_pk (s:=s) (i:=i + 1) (by omega)
      simp at h;omega
    · split at h
      · have:=lt_of_pk (s:=s) (i:=i + 1) (by omega)
        simp at h;omega
      · split at h
        · rename_i hc
          have:=hexv_le s (i + 2) hc.2.2.1
          simp at h;omega
        · cases h
theorem chr_bd {s:ByteArray} {a b:Int} {i x j:Nat} (h:chr s a b i=some (x,j)):i < j∧j≤s.size∧x≤1114111:=by
  unfold chr at h
  split at h
  · cases h
  · rename_i h0
    have hl:=lt_of_pk (s:=s) (i:=i) (by omega)
    split at h
    · exact esc_bd h
    · split at h
      · have:=U.width s i hl
        have:=U.rune_le s i
        simp at h;omega
      · cases h
structure PNode where
  kind:Nat
  ranges:List (Nat × Nat)
  other:Bool
  parts:List Nat
  size:Nat
def sz (T:List PNode) (p:Nat):Nat:=match T[p]? with | some x=>x.size | none=>0
theorem sz_eq {T:List PNode} {p:Nat} {x:PNode} (h:T[p]?=some x):sz T p=x.size:=by simp [sz,h]
def sizeOf (T:List PNode) (ps:List Nat):Nat:=(ps.map (sz T)).sum
def mk (T:List PNode) (k:Nat) (rs:List (Nat × Nat)) (o:Bool) (ps:List Nat):PNode:=⟨k,rs,o,ps,min ((if k=115 then 1 else 0) + sizeOf T ps) 101⟩
inductive Res where
  | ok (n j:Nat) (T:List PNode)
  | err (e p:Nat)
inductive NT where
  | quote (ps:List Nat)
  | set (o:Bool) (rs:List (Nat × Nat))
  | atom
  | seq (ps:List Nat)
  | expr (ps:List Nat)
def atomic (c:Int):Bool:=decide (c=40 ∨ c=46 ∨ c=36 ∨ c=39 ∨ c=91)
def repeats (c:Int):Bool:=decide (c=42 ∨ c=43 ∨ c=63)
def name (s:ByteArray) (i:Nat):ByteArray:=s.extract (i + 1) (wend s (i + 1))
def lookup (E:List (ByteArray × Nat)) (n:ByteArray):Option Nat:=(E.find? fun x=>decide (x.1=n)).map (·.2)
inductive R (s:ByteArray) (E:List (ByteArray × Nat)):NT→Nat→Nat→List PNode→Res→Prop
  | quoteErr {ps d i T}:chr s 39 39 i=none→R s E (.quote ps) d i T (.err 2 i)
  | quoteEnd {ps d i T x j}:chr s 39 39 i=some (x,j)→pk s j=39→R s E (.quote ps) d i T (.ok (T.length + 1) (j + 1) (T ++ [mk T 115 [(x,x)] false []] ++ [mk (T ++ [mk T 115 [(x,x)] false []]) 113 [] false (ps ++ [T.length])]))
  | quoteMore {ps d i T x j r}:chr s 39 39 i=some (x,j)→pk s j ≠ 39→R s E (.quote (ps ++ [T.length])) d j (T ++ [mk T 115 [(x,x)] false []]) r→R s E (.quote ps) d i T r
  | setEnd {o rs d i T}:pk s i=93→R s E (.set o rs) d i T (.ok T.length (i + 1) (T ++ [mk T 115 rs o []]))
  | setErr {o rs d i T}:pk s i ≠ 93→chr s 93 45 i=none→R s E (.set o rs) d i T (.err 2 i)
  | setOne {o rs d i T a j r}:pk s i ≠ 93→chr s 93 45 i=some (a,j)→pk s j ≠ 45→R s E (.set o (rs ++ [(a,a)])) d j T r→R s E (.set o rs) d i T r
  | setErr2 {o rs d i T a j}:pk s i ≠ 93→chr s 93 45 i=some (a,j)→pk s j=45→chr s 93 45 (j + 1)=none→R s E (.set o rs) d i T (.err 2 (j + 1))
  | setErr3 {o rs d i T a j b k}:pk s i ≠ 93→chr s 93 45 i=some (a,j)→pk s j=45→chr s 93 45 (j + 1)=some (b,k)→b < a→R s E (.set o rs) d i T (.err 4 i)
  | setTwo {o rs d i T a j b k r}:pk s i ≠ 93→chr s 93 45 i=some (a,j)→pk s j=45→chr s 93 45 (j + 1)=some (b,k)→a≤b→R s E (.set o (rs ++ [(a,b)])) d k T r→R s E (.set o rs) d i T r
  | deep {d i T}:pk s i=40→d=40→R s E .atom d i T (.err 5 i)
  | parenErr {d i T e p}:pk s i=40→d ≠ 40→R s E (.expr []) (d + 1) (i + 1) T (.err e p)→R s E .atom d i T (.err e p)
  | parenForm {d i T n j T'}:pk s i=40→d ≠ 40→R s E (.expr []) (d + 1) (i + 1) T (.ok n j T')→pk s (skip s j) ≠ 41→R s E .atom d i T (.err 2 (skip s j))
  | paren {d i T n j T'}:pk s i=40→d ≠ 40→R s E (.expr []) (d + 1) (i + 1) T (.ok n j T')→pk s (skip s j)=41→R s E .atom d i T (.ok n (skip s j + 1) T')
  | dot {d i T}:pk s i=46→R s E .atom d i T (.ok T.length (i + 1) (T ++ [mk T 115 [] true []]))
  | nameForm {d i T}:pk s i=36→wend s (i + 1)=i + 1→R s E .atom d i T (.err 2 i)
  | nameErr {d i T}:pk s i=36→wend s (i + 1) ≠ i + 1→lookup E (name s i)=none→R s E .atom d i T (.err 3 i)
  | name {d i T n}:pk s i=36→wend s (i + 1) ≠ i + 1→lookup E (name s i)=some n→R s E .atom d i T (.ok n (wend s (i + 1)) T)
  | quote {d i T r}:pk s i=39→R s E (.quote []) d (i + 1) T r→R s E .atom d i T r
  | setNot {d i T r}:pk s i=91→pk s (i + 1)=94→R s E (.set true []) d (i + 2) T r→R s E .atom d i T r
  | set {d i T r}:pk s i=91→pk s (i + 1) ≠ 94→R s E (.set false []) d (i + 1) T r→R s E .atom d i T r
  | seqErr {ps d i T e p}:atomic (pk s (skip s i))=true→R s E .atom d (skip s i) T (.err e p)→R s E (.seq ps) d i T (.err e p)
  | seqRep {ps d i T n j T' r}:atomic (pk s (skip s i))=true→R s E .atom d (skip s i) T (.ok n j T')→repeats (pk s (skip s j))=true →
      R s E (.seq (ps ++ [T'.length])) d (skip s j + 1) (T' ++ [mk T' (pk s (skip s j)).toNat [] false [n]]) r→R s E (.seq ps) d i T r
  | seqItem {ps d i T n j T' r}:atomic (pk s (skip s i))=true→R s E .atom d (skip s i) T (.ok n j T')→repeats (pk s (skip s j))=false →
      R s E (.seq (ps ++ [n])) d (skip s j) T' r→R s E (.seq ps) d i T r
  | seqForm {d i T}:atomic (pk s (skip s i))=false→R s E (.seq []) d i T (.err 2 (skip s i))
  | seqEnd {ps d i T}:atomic (pk s (skip s i))=false→ps ≠ []→R s E (.seq ps) d i T (.ok T.length (skip s i) (T ++ [mk T 113 [] false ps]))
  | exprErr {ps d i T e p}:R s E (.seq []) d i T (.err e p)→R s E (.expr ps) d i T (.err e p)
  | exprMore {ps d i T n j T' r}:R s E (.seq []) d i T (.ok n j T')→pk s (skip s j)=124→R s E (.expr (ps ++ [n])) d (skip s j + 1) T' r→R s E (.expr ps) d i T r
  | exprEnd {ps d i T n j T'}:R s E (.seq []) d i T (.ok n j T')→pk s (skip s j) ≠ 124→R s E (.expr ps) d i T (.ok T'.length (skip s j) (T' ++ [mk T' 99 [] false (ps ++ [n])]))
end G
end Go.Proofs.YtpgcidpghmoibaaGreatDoor
