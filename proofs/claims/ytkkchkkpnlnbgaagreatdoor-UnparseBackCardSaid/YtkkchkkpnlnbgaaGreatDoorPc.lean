/- Scripts' trees: with fuel for each token the parser never stops for want of it: no error has the number 0. No premises. -/
import Derived.Test.YtkkchkkpnlnbgaaGreatDoorNn
import Derived.Test.YtkkchkkpnlnbgaaGreatDoorOa
import Derived.Test.YtkkchkkpnlnbgaaGreatDoorNz
namespace Go.Proofs.YtkkchkkpnlnbgaaGreatDoor
namespace Sx
open Lx (Tok)
def Nz {α:Type} (m:M α) (s:St):Prop:=∀ k,m s≠.error (0,k)
section
variable {α β:Type}
theorem nz_bnd {m:M α} {f:α→M β} {s:St} (h1:Nz m s) (h2:∀ a s1,m s=.ok (a,s1)→Nz (f a) s1):Nz (bnd m f) s:=fun k e=>by
 unfold bnd at e
 cases hm:m s with
 | error x=>rw[hm] at e;injection e with e;subst e;exact h1 k hm
 | ok x=>obtain⟨a,s1⟩:=x;rw[hm] at e;exact h2 a s1 hm k e
theorem nz_ok {m:M α} {s:St} (h:∃ x,m s=.ok x):Nz m s:=fun k e=>by obtain⟨x,hx⟩:=h;rw[hx] at e;cases e
theorem nz_err {m:M α} {s:St} {n l:Nat} (hn:n≠0) (h:m s=.error (n,l)):Nz m s:=fun k e=>by
 rw[h] at e
 injection e with e
 injection e with e _
 exact hn e
theorem nz_ret (a:α) (s:St):Nz (ret a) s:=nz_ok ⟨_,rfl⟩
theorem nz_add (n:Node) (s:St):Nz (add n) s:=nz_ok ⟨_,rfl⟩
theorem nz_lines (s:St):Nz lines s:=nz_ok ⟨_,rfl⟩
theorem nz_words (s:St):Nz words s:=nz_ok ⟨_,rfl⟩
theorem nz_passed (t:L) (s:St):Nz (passed t) s:=by
 by_cases e:isT t s=true
 ·exact nz_ok ⟨_,if_pos e⟩
 ·exact nz_ok ⟨_,if_neg e⟩
theorem nz_parted (s:St):Nz parted s:=by
 by_cases e:isT [59] s=true∨(hd s).kind=3
 ·exact nz_ok ⟨_,if_pos e⟩
 ·exact nz_ok ⟨_,if_neg e⟩
theorem nz_need (t:L) (s:St):Nz (need t) s:=by
 by_cases e:isT t s=true
 ·exact nz_ok ⟨_,if_pos e⟩
 ·exact nz_err (by decide) (if_neg e)
theorem nz_word (s:St):Nz word s:=by
 by_cases e:(hd s).kind=1
 ·exact nz_ok ⟨_,if_pos e⟩
 ·exact nz_err (by decide) (if_neg e)
theorem nz_name (s:St):Nz name s:=by
 by_cases e:nameB (hd s).text=true
 ·exact nz_ok ⟨_,if_pos e⟩
 ·exact nz_err (by decide) (if_neg e)
theorem nz_redir (s:St):Nz redir s:=by
 intro k e
 unfold redir at e
 by_cases h:(hd s).kind=5
 ·rw[if_pos h] at e;exact nz_bnd (nz_word _) (fun _ _ _=>nz_ret _ _) k e
 ·rw[if_neg h] at e;exact nz_bnd (nz_word _) (fun _ _ _=>nz_ret _ _) k e
theorem nz_sim:∀ (m:Nat) (ws:List L) (rs:List Arw) (s:St),good s.r=true→s.r.length<m→Nz (simF m ws rs) s
 | 0,_,_,_,_,h=>absurd h (by omega)
 | m+1,ws,rs,s,hg,hl=>fun k e=>by
  unfold simF at e
  by_cases h:(hd s).kind=1
  ·rw[if_pos h] at e
   have w:Wk 9 s (go s) []:=Wk.go hg (.inr (by rw[h];decide))
   have:=w.len (by decide)
   exact nz_sim m _ _ _ w.gd (by omega) k e
  ·rw[if_neg h] at e
   by_cases h2:atRedir s=true
   ·rw[if_pos h2] at e
    refine nz_bnd (nz_redir s) (fun x s1 hx=>?_) k e
    have w:=redir_un hg h2 hx
    have:=w.len (by decide)
    exact nz_sim m _ _ _ w.gd (by omega)
   ·rw[if_neg h2] at e;cases e
theorem nz_simple {n:Nat} {s:St} (hg:good s.r=true) (hl:s.r.length<n):Nz (simple n) s:=nz_bnd (nz_sim n _ _ s hg hl) fun _ _ _=>nz_add _ _
theorem nz_redF:∀ (m:Nat) (rs:List Arw) (s:St),good s.r=true→s.r.length<m→Nz (redF m rs) s
 | 0,_,_,_,h=>absurd h (by omega)
 | m+1,rs,s,hg,hl=>fun k e=>by
  unfold redF at e
  by_cases h2:atRedir s=true
  ·rw[if_pos h2] at e
   refine nz_bnd (nz_redir s) (fun x s1 hx=>?_) k e
   have w:=redir_un hg h2 hx
   have:=w.len (by decide)
   exact nz_redF m _ _ w.gd (by omega)
  ·rw[if_neg h2] at e;cases e
theorem nz_alt:∀ (m:Nat) (ws:List L) (s:St),good s.r=true→s.r.length<m→Nz (altF m ws) s
 | 0,_,_,_,h=>absurd h (by omega)
 | m+1,ws,s,hg,hl=>nz_bnd (nz_passed _ _) fun b s1 h1=>by
  have w1:=passed_wk (by decide) hg h1
  have l1:=w1.le
  cases b with
  | true=>
   refine nz_bnd (nz_word _) fun w s2 h2=>?_
   obtain⟨_,_,_,w2⟩:=word_un w1.gd h2
   have:=w2.len (by decide)
   exact nz_alt m _ _ w2.gd (by omega)
  | false=>exact nz_ret _ _
end
section
variable {a:M Nat} {N F:Nat} (ha:UnA a) (hz:∀ s:St,good s.r=true→s.r.length<N→Nz a s) (hF:N<F)
include hz in
theorem nz_lst {s:St} (hg:good s.r=true) (hl:s.r.length<N):Nz (lst a) s:=nz_bnd (nz_lines s) fun _ s1 h1 k e=>by
 obtain⟨_,w1⟩:=lines_un hg h1
 have:=w1.le
 by_cases h:atAndOr s1=true
 ·simp only[if_pos h] at e;exact hz s1 w1.gd (by omega) k e
 ·simp only[if_neg h] at e;injection e with e;injection e with e _;cases e
include ha hz
omit ha in
theorem nz_group {s:St} (hg:good s.r=true) (hl:s.r.length≤N):Nz (group a) s:=nz_bnd (nz_need _ _) fun _ s1 h1=>by
 obtain⟨_,_,w1⟩:=need_un (by decide) hg h1
 have:=w1.len (by decide)
 exact nz_bnd (nz_lst hz w1.gd (by omega)) fun i s2 _=>nz_bnd (nz_need _ _) fun _ _ _=>nz_ret _ _
omit ha in
theorem nz_sub {s:St} (hg:good s.r=true) (hl:s.r.length≤N):Nz (sub a) s:=nz_bnd (nz_need _ _) fun _ s1 h1=>by
 obtain⟨_,_,w1⟩:=need_un (by decide) hg h1
 have:=w1.len (by decide)
 exact nz_bnd (nz_lst hz w1.gd (by omega)) fun i s2 _=>nz_bnd (nz_need _ _) fun _ _ _=>nz_ret _ _
theorem nz_branch:∀ (m:Nat) (s:St),good s.r=true→(hd s).text≠[]→s.r.length≤N→s.r.length<m→Nz (branchF a m) s
 | 0,_,_,_,_,h=>absurd h (by omega)
 | m+1,s,hg,ht,hl,hm=>fun k e=>by
  unfold branchF at e
  have w0:=Wk.go hg (.inl ht)
  have l0:=w0.len (by decide)
  refine nz_bnd (nz_lst hz w0.gd (by omega)) (fun i s1 h1=>nz_bnd (nz_need _ _) fun _ s2 h2=>?_) k e
  have w1:=lst_un ha w0.gd h1
  obtain⟨_,_,w2⟩:=need_un (by decide) w1.gd h2
  have l1:=w1.le
  have l2:=w2.len (by decide)
  refine nz_bnd (nz_lst hz w2.gd (by omega)) fun j s3 h3 k e=>?_
  have w3:=lst_un ha w2.gd h3
  have l3:=w3.le
  by_cases hE:isT kELIF s3=true
  ·simp only[if_pos hE] at e
   exact nz_bnd (nz_branch m s3 w3.gd (isT_text hE (by decide)) (by omega) (by omega)) (fun nd s4 _=>nz_bnd (nz_add _ _) fun _ _ _=>nz_ret _ _) k e
  ·simp only[if_neg hE] at e
   refine nz_bnd (nz_passed _ _) (fun b s4 h4=>?_) k e
   have w4:=passed_un (by decide) w3.gd h4
   cases b with
   | true=>
    rcases w4 with⟨_,_,_,w4⟩ | ⟨hb,_⟩
    ·have l4:=w4.len (by decide)
     exact nz_bnd (nz_lst hz w4.gd (by omega)) fun _ _ _=>nz_ret _ _
    ·cases hb
   | false=>exact nz_ret _ _
include hF in
theorem nz_choice {s:St} (hg:good s.r=true) (ht:(hd s).text≠[]) (hl:s.r.length≤N):Nz (choice a F) s:=
 nz_bnd (nz_branch ha hz F s hg ht hl (by omega)) fun _ _ _=>nz_bnd (nz_need _ _) fun _ _ _=>nz_ret _ _
omit ha in
theorem nz_body {s:St} (hg:good s.r=true) (hl:s.r.length≤N):Nz (body a) s:=nz_bnd (nz_need _ _) fun _ s1 h1=>by
 obtain⟨_,_,w1⟩:=need_un (by decide) hg h1
 have:=w1.len (by decide)
 exact nz_bnd (nz_lst hz w1.gd (by omega)) fun i s2 _=>nz_bnd (nz_need _ _) fun _ _ _=>nz_ret _ _
theorem nz_loop {s:St} (hg:good s.r=true) (ht:(hd s).text≠[]) (hl:s.r.length≤N):Nz (loop a) s:=fun k e=>by
 unfold loop at e
 have w0:=Wk.go hg (.inl ht)
 have l0:=w0.len (by decide)
 refine nz_bnd (nz_lst hz w0.gd (by omega)) (fun i s1 h1=>?_) k e
 have w1:=lst_un ha w0.gd h1
 have l1:=w1.le
 exact nz_bnd (nz_body hz w1.gd (by omega)) fun _ _ _=>nz_ret _ _
omit ha in
theorem nz_each2 (t:L) (f:Bool) (ws:List L) {s:St} (hg:good s.r=true) (hl:s.r.length≤N):Nz (each2 a t f ws) s:=nz_bnd (nz_lines _) fun _ s1 h1=>by
 have w1:=(lines_un hg h1).2
 have l1:=w1.le
 exact nz_bnd (nz_body hz w1.gd (by omega)) fun _ _ _=>nz_ret _ _
omit ha in
theorem nz_each {s:St} (hg:good s.r=true) (hl:s.r.length≤N):Nz (each a) s:=nz_bnd (nz_need _ _) fun _ s1 h1=>by
 obtain⟨_,_,w1⟩:=need_un (by decide) hg h1
 have l1:=w1.le
 refine nz_bnd (nz_name _) fun t s2 h2=>?_
 obtain⟨_,_,w2⟩:=name_un w1.gd h2
 have l2:=w2.le
 refine nz_bnd (nz_passed _ _) fun b s3 h3=>?_
 have w3:=passed_wk (by decide) w2.gd h3
 have l3:=w3.le
 cases b with
 | true=>exact nz_each2 hz t true [] w3.gd (by omega)
 | false=>
  rw[if_neg Bool.false_ne_true]
  refine nz_bnd (nz_lines _) fun _ s4 h4=>?_
  have w4:=(lines_un w3.gd h4).2
  have l4:=w4.le
  refine nz_bnd (nz_passed _ _) fun c s5 h5=>?_
  have w5:=passed_wk (by decide) w4.gd h5
  have l5:=w5.le
  cases c with
  | true=>
   rw[if_pos rfl]
   refine nz_bnd (nz_words _) fun ws s6 h6=>?_
   have w6:=words_un w5.gd h6
   have l6:=w6.le
   refine nz_bnd (nz_parted _) fun p s7 h7=>?_
   have w7:=(parted_un w6.gd h7).1
   have l7:=w7.le
   cases p with
   | true=>exact nz_each2 hz t false ws w7.gd (by omega)
   | false=>exact nz_err (n:=20) (by decide) rfl
  | false=>exact nz_each2 hz t true [] w5.gd (by omega)
include hF in
omit ha in
theorem nz_item {s:St} (hg:good s.r=true) (hl:s.r.length≤N):Nz (item a F) s:=fun k e=>by
 unfold item at e
 refine nz_bnd (nz_passed _ _) (fun b s1 h1=>nz_bnd (nz_word _) fun w s2 h2=>?_) k e
 have w1:=passed_wk (by decide) hg h1
 have l1:=w1.le
 obtain⟨_,_,_,w2⟩:=word_un w1.gd h2
 have l2:=w2.len (by decide)
 refine nz_bnd (nz_alt F _ _ w2.gd (by omega)) fun ws s3 h3=>nz_bnd (nz_need _ _) fun _ s4 h4=>?_
 have w3:=altF_un F w2.gd h3
 have l3:=w3.le
 obtain⟨_,_,w4⟩:=need_un (by decide) w3.gd h4
 have l4:=w4.le
 exact nz_bnd (hz _ w4.gd (by omega)) fun _ _ _=>nz_add _ _
include hF in
theorem nz_items:∀ (m:Nat) (ks:List Nat) (s:St),good s.r=true→s.r.length≤N→s.r.length<m→Nz (itemsF a F m ks) s
 | 0,_,_,_,_,h=>absurd h (by omega)
 | m+1,ks,s,hg,hl,hm=>fun k e=>by
  unfold itemsF at e
  by_cases hE:isT kESAC s=true
  ·rw[if_pos hE] at e;cases e
  ·rw[if_neg hE] at e
   refine nz_bnd (nz_item hz hF hg hl) (fun i s1 h1=>nz_bnd (nz_passed _ _) fun b s2 h2=>?_) k e
   have w1:=item_un ha F hg h1
   have l1:=w1.len (by decide)
   have w2:=passed_wk (by decide) w1.gd h2
   have l2:=w2.le
   cases b with
   | true=>
    rw[if_pos rfl]
    refine nz_bnd (nz_lines _) fun _ s3 h3=>?_
    have w3:=(lines_un w2.gd h3).2
    have l3:=w3.le
    exact nz_items m _ _ w3.gd (by omega) (by omega)
   | false=>exact nz_ret _ _
include hF in
theorem nz_mtch {s:St} (hg:good s.r=true) (hl:s.r.length≤N):Nz (mtch a F) s:=nz_bnd (nz_need _ _) fun _ s1 h1=>by
 obtain⟨_,_,w1⟩:=need_un (by decide) hg h1
 have l1:=w1.le
 refine nz_bnd (nz_word _) fun w s2 h2=>?_
 obtain⟨_,_,_,w2⟩:=word_un w1.gd h2
 have l2:=w2.le
 refine nz_bnd (nz_lines _) fun _ s3 h3=>?_
 have w3:=(lines_un w2.gd h3).2
 have l3:=w3.le
 refine nz_bnd (nz_need _ _) fun _ s4 h4=>?_
 obtain⟨_,_,w4⟩:=need_un (by decide) w3.gd h4
 have l4:=w4.le
 refine nz_bnd (nz_lines _) fun _ s5 h5=>?_
 have w5:=(lines_un w4.gd h5).2
 have l5:=w5.le
 exact nz_bnd (nz_items ha hz hF F [] _ w5.gd (by omega) (by omega)) fun _ _ _=>nz_bnd (nz_need _ _) fun _ _ _=>nz_ret _ _
include hF in
theorem nz_read (t:L) {s:St} (hg:good s.r=true) (ht:(hd s).text≠[]) (hl:s.r.length≤N):Nz (read a F t) s:=by
 unfold read
 by_cases e1:t=[123]
 ·rw[if_pos e1];exact nz_group hz hg hl
 rw[if_neg e1]
 by_cases e2:t=[40]
 ·rw[if_pos e2];exact nz_sub hz hg hl
 rw[if_neg e2]
 by_cases e3:t=kIF
 ·rw[if_pos e3];exact nz_choice ha hz hF hg ht hl
 rw[if_neg e3]
 by_cases e4:t=kWHILE
 ·rw[if_pos e4];exact nz_loop ha hz hg ht hl
 rw[if_neg e4]
 by_cases e5:t=kUNTIL
 ·rw[if_pos e5];exact nz_loop ha hz hg ht hl
 rw[if_neg e5]
 by_cases e6:t=kFOR
 ·rw[if_pos e6];exact nz_each hz hg hl
 rw[if_neg e6]
 exact nz_mtch ha hz hF hg hl
include hF in
theorem nz_compound {s:St} (hg:good s.r=true) (hl:s.r.length≤N):Nz (compound a F) s:=fun k e=>by
 unfold compound at e
 by_cases h:isComp (hd s).text=true
 ·rw[if_pos h] at e
  by_cases h4:s.d=40
  ·rw[if_pos h4] at e;injection e with e;injection e with e _;cases e
  ·rw[if_neg h4] at e
   refine nz_bnd (s:={ s with d:=s.d+1 }) (nz_read ha hz hF _ hg (isComp_ne h) hl) (fun nd s2 h2 k e=>?_) k e
   have w:=(read_un ha F (s:={ s with d:=s.d+1 }) hg (isComp_ne h) h2).1
   have l:=w.le
   exact nz_bnd (s:={ s2 with d:=s2.d-1 }) (nz_redF F [] _ w.gd (by have:s2.r.length≤s.r.length:=l;show s2.r.length<F;omega)) (fun _ _ _=>nz_add _ _) k e
 ·rw[if_neg h] at e;injection e with e;injection e with e _;cases e
include hF in
theorem nz_func {s:St} (hg:good s.r=true) (ht:(hd s).text≠[]) (hl:s.r.length≤N):Nz (func a F) s:=fun k e=>by
 unfold func at e
 by_cases h4:s.d=40
 ·rw[if_pos h4] at e;injection e with e;injection e with e _;cases e
 ·rw[if_neg h4] at e
  have w0:Wk 9 { s with d:=s.d+1 } (go { s with d:=s.d+1 }) []:=Wk.go (s:={ s with d:=s.d+1 }) hg (.inl ht)
  have l0:(go { s with d:=s.d+1 }).r.length≤s.r.length:=w0.le
  refine nz_bnd (nz_need _ _) (fun _ s1 h1=>nz_bnd (nz_need _ _) fun _ s2 h2=>nz_bnd (nz_lines _) fun _ s3 h3=>?_) k e
  obtain⟨_,_,w1⟩:=need_un (by decide) w0.gd h1
  obtain⟨_,_,w2⟩:=need_un (by decide) w1.gd h2
  have w3:=(lines_un w2.gd h3).2
  have l1:=w1.le
  have l2:=w2.le
  have l3:=w3.le
  exact nz_bnd (nz_compound ha hz hF w3.gd (by omega)) fun _ _ _=>nz_ok ⟨_,rfl⟩
include hF in
theorem nz_command {s:St} (hg:good s.r=true) (hl:s.r.length≤N):Nz (command a F) s:=fun k e=>by
 unfold command at e
 by_cases h:atFunc s=true
 ·rw[if_pos h] at e
  refine nz_func ha hz hF hg (fun e1=>?_) hl k e
  unfold atFunc at h
  rw[e1,nameB_nil] at h
  cases h
 ·rw[if_neg h] at e
  by_cases h2:atSimple s=true
  ·rw[if_pos h2] at e;exact nz_simple hg (by omega) k e
  ·rw[if_neg h2] at e;exact nz_compound ha hz hF hg hl k e
include hF in
theorem nz_pipe:∀ (m:Nat) (ks:List Nat) (s:St),good s.r=true→s.r.length≤N→s.r.length<m→Nz (pipeF a F m ks) s
 | 0,_,_,_,_,h=>absurd h (by omega)
 | m+1,ks,s,hg,hl,hm=>nz_bnd (nz_passed _ _) fun b s1 h1=>by
  have w1:=passed_wk (by decide) hg h1
  have l1:=w1.le
  cases b with
  | true=>
   rw[if_pos rfl]
   refine nz_bnd (nz_lines _) fun _ s2 h2=>?_
   have w2:=(lines_un w1.gd h2).2
   have l2:=w2.le
   refine nz_bnd (nz_command ha hz hF w2.gd (by omega)) fun k s3 h3=>?_
   have w3:=command_un ha F w2.gd h3
   have l3:=w3.len (by decide)
   exact nz_pipe m _ _ w3.gd (by omega) (by omega)
  | false=>exact nz_ret _ _
include hF in
theorem nz_pipeline {s:St} (hg:good s.r=true) (hl:s.r.length≤N):Nz (pipeline a F) s:=fun k e=>by
 unfold pipeline at e
 refine nz_bnd (nz_passed _ _) (fun f s1 h1=>?_) k e
 have w1:=passed_wk (by decide) hg h1
 have l1:=w1.le
 refine nz_bnd (nz_command ha hz hF w1.gd (by omega)) fun k s2 h2=>?_
 have w2:=command_un ha F w1.gd h2
 have l2:=w2.le
 refine nz_bnd (nz_pipe ha hz hF F _ _ w2.gd (by omega) (by omega)) fun ks s3 _=>?_
 by_cases h:f=false∧ks.length=1
 ·rw[if_pos h];exact nz_ret _ _
 ·rw[if_neg h];exact nz_add _ _
include hF in
theorem nz_ao (ln:Nat):∀ (m i:Nat) (s:St),good s.r=true→s.r.length≤N→s.r.length<m→Nz (aoF a F ln m i) s
 | 0,_,_,_,_,h=>absurd h (by omega)
 | m+1,i,s,hg,hl,hm=>fun k e=>by
  unfold aoF at e
  by_cases h:isT [38,38] s=true∨isT [124,124] s=true
  ·rw[if_pos h] at e
   have w0:Wk 9 s (go s) []:=Wk.go hg (.inl (by rcases h with e | e;exact isT_text e (by decide);exact isT_text e (by decide)))
   have l0:=w0.len (by decide)
   refine nz_bnd (nz_lines _) (fun _ s1 h1=>?_) k e
   have w1:=(lines_un w0.gd h1).2
   have l1:=w1.le
   refine nz_bnd (nz_pipeline ha hz hF w1.gd (by omega)) fun j s2 h2=>nz_bnd (nz_add _ _) fun x s3 h3=>?_
   have w2:=pipeline_un ha F w1.gd h2
   have l2:=w2.le
   unfold add at h3
   cases h3
   exact nz_ao ln m _ _ w2.gd (by show s2.r.length≤N;omega) (by show s2.r.length<m;omega)
  ·rw[if_neg h] at e;cases e
include hF in
theorem nz_andOr {s:St} (hg:good s.r=true) (hl:s.r.length≤N):Nz (andOr a F) s:=fun k e=>by
 unfold andOr at e
 refine nz_bnd (nz_pipeline ha hz hF hg hl) (fun i s1 h1=>?_) k e
 have w1:=pipeline_un ha F hg h1
 have l1:=w1.le
 exact nz_ao ha hz hF _ F _ _ w1.gd (by omega) (by omega)
include hF in
theorem nz_list:∀ (m:Nat) (ks:List Nat) (s:St),good s.r=true→s.r.length≤N→s.r.length<m→Nz (listF a F m ks) s
 | 0,_,_,_,_,h=>absurd h (by omega)
 | m+1,ks,s,hg,hl,hm=>fun k e=>by
  unfold listF at e
  by_cases h:atAndOr s=true
  ·rw[if_pos h] at e
   refine nz_bnd (nz_andOr ha hz hF hg hl) (fun i s1 h1=>nz_bnd (nz_parted _) fun b s2 h2=>?_) k e
   have w1:=andOr_un ha F hg h1
   have l1:=w1.len (by decide)
   have w2:=(parted_un w1.gd h2).1
   have l2:=w2.le
   cases b with
   | true=>exact nz_list m _ _ w2.gd (by omega) (by omega)
   | false=>exact nz_ret _ _
  ·rw[if_neg h] at e;cases e
include hF in
theorem nz_anyL {s:St} (hg:good s.r=true) (hl:s.r.length≤N):Nz (anyL a F) s:=nz_bnd (nz_lines _) fun _ s1 h1 k e=>by
 have w1:=(lines_un hg h1).2
 have l1:=w1.le
 exact nz_bnd (nz_list ha hz hF F [] s1 w1.gd (by omega) (by omega)) (fun _ _ _=>nz_add _ _) k e
end
theorem nz_any:∀ (n:Nat) (s:St),good s.r=true→s.r.length<n→Nz (anyF n) s
 | 0,_,_,h=>absurd h (by omega)
 | n+1,s,hg,hl=>nz_anyL (anyF_un n) (nz_any n) (Nat.lt_succ_self n) hg (by omega)
theorem parse_nz {ts:List Tok} (hg:good ts=true) (k:Nat):parse ts≠.error (0,k):=fun e=>by
 unfold parse at e
 cases h:script (ts.length+1) ⟨ts,0,[]⟩ with
 | ok x=>rw[h] at e;cases e
 | error x=>
  rw[h] at e
  injection e with e
  subst e
  unfold script at h
  refine nz_bnd (nz_any (ts.length+1) ⟨ts,0,[]⟩ hg (by show ts.length<ts.length+1;omega)) (fun i s1 _ k e=>?_) k h
  by_cases h4:(hd s1).kind=4
  ·simp only[if_pos h4] at e;cases e
  ·simp only[if_neg h4] at e;injection e with e;injection e with e _;cases e
end Sx
end Go.Proofs.YtkkchkkpnlnbgaaGreatDoor
namespace Go.Proofs.YtkkchkkpnlnbgaaGreatDoor
open Go.RowKit Go.Maps
open Lx (nl Tok)
namespace Sx
theorem tree_forest {S:L} {ns:List Node} (h:tree S=.ok ns):Forest 0 ns [ns.length-1]∧0<ns.length∧(∀ n,ns[ns.length-1]?=some n→n.kind=5)∧ns.length≤8*S.length+9:=by
 unfold tree at h
 cases hx:Lx.all S with
 | error e=>rw[hx] at h;cases h
 | ok ts=>
  rw[hx] at h
  have h:parse ts=.ok ns:=h
  unfold parse at h
  cases hs:script (ts.length+1) ⟨ts,0,[]⟩ with
  | error e=>rw[hs] at h;cases h
  | ok x=>
   obtain⟨u,s'⟩:=x
   rw[hs] at h
   have h:(Except.ok s'.ns:Except Er (List Node))=.ok ns:=h
   injection h with h
   subst h
   unfold script at hs
   obtain⟨i,s1,h1,h2⟩:=bnd_inv hs
   have hw:=anyF_un (ts.length+1) ⟨ts,0,[]⟩ i s1 (Lx.all_good hx) h1
   have e1:s1=s':=by
    by_cases e:(hd s1).kind=4
    ·rw[if_pos e] at h2;cases h2;rfl
    ·rw[if_neg e] at h2;cases h2
   subst e1
   rw[show anyF (ts.length+1)=anyL (anyF ts.length) (ts.length+1) from rfl] at h1
   unfold anyL at h1
   obtain⟨_,s2,h3,h4⟩:=bnd_inv h1
   obtain⟨ks,s3,h5,h6⟩:=bnd_inv h4
   unfold add at h6
   injection h6 with h6
   injection h6 with h7 h8
   obtain⟨ms,e2,f⟩:=hw.fo
   simp only[List.nil_append] at e2
   have hp:=hw.pot
   have hsm:=(Lx.all_small hx).1
   rw[←e2] at f
   have hl:s1.ns.length=i+1:=by rw[←h8,←h7];simp
   refine⟨by rw[hl];exact f,by omega,fun n hn=>?_,by simp only[List.length_nil] at hp;omega⟩
   rw[hl,Nat.add_sub_cancel,←h8,←h7] at hn
   simp only[List.getElem?_append_right (Nat.le_refl _),Nat.sub_self,List.getElem?_cons_zero,Option.some.injEq] at hn
   rw[←hn]
end Sx
end Go.Proofs.YtkkchkkpnlnbgaaGreatDoor
