/- Own work. -/
import Derived.Test.YtghioekjghmdaaaGreatDoorFixE
import Derived.Test.YtghioekjghmdaaaGreatDoorEvOnes
set_option linter.unusedSimpArgs false
set_option linter.unusedVariables false
namespace Go.Proofs.YtghioekjghmdaaaGreatDoor
open Go.RowKit
open Tm (Nd Tr treeOf checkT plainN avN)
variable {G : World → Prop}
open Tm (joinT)
open Ev (Pla pla_one pla_ones)
theorem eval_pla(H:EvalC G){t:Tr}{k d m f:Nat}{v:Option Rat}(h:Pla t k d m f v)(hk:k≤2000)(hd:d≤150)(hm:m≤20000)(hf:f≤19000){r:Key×Int}(he:Ev.evalE t.flat []=r){p:Option Addr}{c:Nat}{V:World}(hc:k≤c)(hT:Nds V p t.flat)(hg:G V) :
  Calls Tryz.prog 11 #[.slice p k c,.slice none 0 0] V (GiveRE V r):=by
 have e:=H.eval 10 (by decide) p c t.flat none 0 [] V (by rw[h.len];exact hc) (by rw[h.len];exact hk) h.sz (Nat.le_refl _) (Nat.zero_le _) (fun x hx=>by cases hx) (fun tr ht=>Nat.le_trans ((h.eval hk hd hm).2 tr ht) hf) hT (RowsG.nil _ _) hg;rw[h.len,he]at e;exact e
theorem join_pla{a b:Tr}{k d m e k' d' m' e':Nat}{v v':Option Rat}{op:Int}(ha:Pla a k d m e v)(hb:Pla b k' d' m' e' v')(hk:k+k'≤1000000){q:Option Addr}{V:World}(h:Trms V q [a.flat,b.flat]) :
  Calls Tryz.prog 19 #[.int .i64 op,.slice q 2 2] V (fun e w'=>(∃p c,e=.returned (.slice p (k+k'+1) c)∧k+k'+1≤c∧Nds w' p (Tr.t2 (plainN op) a b).flat)∧Below V.heap.size V w'):=by
 have c:=rtjoin_n op q 2 [a.flat,b.flat] V (show 2≤4611686018427387904 by decide) (by simp[ha.len,hb.len];omega) h;refine c.mono ?_;rintro e w' ⟨⟨p,c,he,hc,hd⟩,hb'⟩;have hl:(joinT op [a.flat,b.flat]).length=k+k'+1:=by rw[Tm.join_len];simp[ha.len,hb.len]
 rw[hl]at he hc;rw[Ev.join_two]at hd;exact⟨⟨p,c,he,hc,hd⟩,hb'⟩
theorem join3_pla{a b u:Tr}{k d m e k' d' m' e' k2 d2 m2 e2:Nat}{v v' v2:Option Rat}(ha:Pla a k d m e v)(hb:Pla b k' d' m' e' v')(hu:Pla u k2 d2 m2 e2 v2)(hk:k+k'+k2≤1000000){q:Option Addr}{V:World}(h:Trms V q [a.flat,b.flat,u.flat]) :
  Calls Tryz.prog 19 #[.int .i64 12,.slice q 3 3] V (fun e w'=>(∃p c,e=.returned (.slice p (k+k'+k2+1) c)∧k+k'+k2+1≤c∧Nds w' p (Tr.t3 (plainN 12) a b u).flat)∧Below V.heap.size V w'):=by
 have c:=rtjoin_n 12 q 3 [a.flat,b.flat,u.flat] V (show 3≤4611686018427387904 by decide) (by simp[ha.len,hb.len,hu.len];omega) h;refine c.mono ?_;rintro e w' ⟨⟨p,c,he,hc,hd⟩,hb'⟩;have hl:(joinT 12 [a.flat,b.flat,u.flat]).length=k+k'+k2+1:=by rw[Tm.join_len];simp[ha.len,hb.len,hu.len];omega
 rw[hl]at he hc;rw[show joinT 12 [a.flat,b.flat,u.flat]=(Tr.t3 (plainN 12) a b u).flat by simp[joinT,Tr.flat]]at hd;exact⟨⟨p,c,he,hc,hd⟩,hb'⟩
end Go.Proofs.YtghioekjghmdaaaGreatDoor
