import Derived.Test.YtohfdkdjfoonjaaGreatDoorEvH35
set_option linter.unusedSimpArgs false
set_option linter.unusedVariables false
namespace Go.Proofs
namespace House
open Go Go.RowKit Go.Aev
set_option maxRecDepth 100000
theorem psg_way {h:Hs} {p:Pg} (hp:p ∈ psg h):(0≤p.way∧p.way<(h.ways.length:Int))∧r144 h p.way p.back=((p.way,p.back,p.fr,p.to,p.secs,p.door),true):=by
 obtain ⟨w,b,h1,h2,h3,rfl⟩:=R148_mem h h.ways 0 (by simp) p hp
 have e1:(r144 h w b).1.1=w:=by unfold r144; split<;>rfl
 have e2:(r144 h w b).1.2.1=b:=by
  unfold r144
  cases b<;>simp
 have e:r144 h w b=(((r144 h w b).1.1,(r144 h w b).1.2.1,(r144 h w b).1.2.2.1,(r144 h w b).1.2.2.2.1,(r144 h w b).1.2.2.2.2.1,(r144 h w b).1.2.2.2.2.2),(r144 h w b).2):=rfl
 refine ⟨?_,?_⟩
 ·show 0≤(r144 h w b).1.1∧(r144 h w b).1.1<_
  rw [e1]; exact ⟨h1,h2⟩
 ·show r144 h (r144 h w b).1.1 (r144 h w b).1.2.1=(((r144 h w b).1.1,(r144 h w b).1.2.1,(r144 h w b).1.2.2.1,(r144 h w b).1.2.2.2.1,(r144 h w b).1.2.2.2.2.1,(r144 h w b).1.2.2.2.2.2),true)
  rw [← h3,e1,e2]
  rw [e1,e2] at e
  exact e
theorem step_ok {h:Hs} (hV:r59 h=0) {p:Pg} (hp:p ∈ psg h) {t:Int} (ht:0≤t∧t≤1073741823) (hi:r145 p t h≤1073741823) :
  r103 h p.fr t ⟨p.way,p.back,r145 p t h - p.secs⟩=(p.to,r145 p t h,0):=by
 have hw:=psg_way hp
 have ok:=(psg_ok hV hp).ok
 have hs:=ok.s
 have key:t≤r145 p t h - p.secs∧(0≤p.door→r89 (lget h.doors (Int.toNat p.door)) (r145 p t h - p.secs)=r145 p t h - p.secs):=by
  unfold r145 at hi ⊢
  split
  ·rename_i hd
   rw [if_pos hd] at hi
   have hO:=oko hV (List.mem_of_getElem? (lget_some (l:=h.doors) (i:=Int.toNat p.door) (by have:=ok.d; omega)))
   have hn:=r89_nx hO ht.1
   have e:min (r89 (lget h.doors (Int.toNat p.door)) t+p.secs) 1073741824 - p.secs=r89 (lget h.doors (Int.toNat p.door)) t:=by omega
   rw [e]
   have g:=r89_ge hO ht
   refine ⟨g.1,fun _=>?_⟩
   refine Nx.unique (r89_nx hO (by omega)) ?_
   rcases hn with ⟨n1,n2⟩|⟨n1,n2,n3,n4⟩
   ·omega
   ·exact .inr ⟨Int.le_refl _,n2,n3,fun n q1 q2=>by omega⟩
  ·rename_i hd
   rw [if_neg hd] at hi
   exact ⟨by omega,fun h=>absurd h hd⟩
 unfold r103
 simp only [hw.2]
 rw [if_pos (r143_iff.2 hw.1),if_pos (r88_iff.2 (by omega))]
 rw [if_pos trivial,if_pos trivial,if_neg (by omega)]
 have e:r145 p t h - p.secs+p.secs=r145 p t h:=by omega
 rw [e]
 by_cases hd:0≤p.door
 ·rw [if_pos hd,if_pos (key.2 hd),if_pos (r88_iff.2 (by omega))]
 ·rw [if_neg hd,if_pos (r88_iff.2 (by omega))]
theorem R39_app (h:Hs) (f t:Int) (L:List Stp):∀ (a b:List Stp) (fr tv fr' tv':Int),R39_0 h f t L a fr tv=.inr (fr',tv')→R39_0 h f t L (a++b) fr tv=R39_0 h f t L b fr' tv':=by
 intro a
 induction a with
 | nil=>intro b fr tv fr' tv' e; rw [R39_0] at e; cases e; rfl
 | cons x a ih =>
  intro b fr tv fr' tv' e
  rw [R39_0] at e
  rw [List.cons_append,R39_0]
  split
  ·rename_i c; rw [if_pos c] at e; exact ih b _ _ _ _ e
  ·rename_i c; rw [if_neg c] at e; cases e
theorem route_walks {h:Hs} {fr ti:Int} {rk:Nat→Nat} (hV:r59 h=0) (hR:Trees h.rooms.length fr ti (psg h) (fun p t=>r145 p t h) (r114 h fr ti).1.1 (r114 h fr ti).1.2 rk) (hf:0≤fr) (ht:0≤ti) (to_:Int) (L:List Stp) :
  ∀ (m:Nat) (steps:List Stp) (now:Int),rk now.toNat<m→0≤now∧now<(h.rooms.length:Int)→lget (r114 h fr ti).1.1 now.toNat≤1073741823 →
   ∃ pre,R48_0 h fr ti to_ m steps now=steps++pre∧R39_0 h fr ti L pre.reverse fr ti=.inr (now,lget (r114 h fr ti).1.1 now.toNat):=by
 intro m
 induction m with
 | zero=>intro steps now h0; omega
 | succ m ih =>
  intro steps now h0 h1 h2
  rw [R48_0]
  by_cases e:now=fr
  ·rw [if_pos e]
   exact ⟨[],by simp,by rw [e,hR.st]; rfl⟩
  ·rw [if_neg e]
   obtain ⟨hb,hq,hm,hf2,hs,hto,ha,hi,hk,hl⟩:=hop hV hR hf ht h1 e h2
   generalize lget (r114 h fr ti).2 (lget (r114 h fr ti).1.2 now.toNat).toNat=p at *
   obtain ⟨pre,e1,e2⟩:=ih (steps++[⟨p.way,p.back,lget (r114 h fr ti).1.1 now.toNat - p.secs⟩]) p.fr (by omega) hf2 hi.2
   refine ⟨⟨p.way,p.back,lget (r114 h fr ti).1.1 now.toNat - p.secs⟩ :: pre,by rw [e1]; simp,?_⟩
   rw [List.reverse_cons,R39_app h fr ti L _ _ _ _ _ _ e2,R39_0,R39_0]
   have hi2:r145 p (lget (r114 h fr ti).1.1 p.fr.toNat) h≤1073741823:=by rw [← ha]; exact h2
   have st:=step_ok hV hm hi hi2
   rw [ha,st,hto]
   rfl
theorem r104_cs (h:Hs) (f t:Int):r104 h f t=if r59 h=0 then (if r102 h f=true∧r88 t=true then 0 else 1) else r59 h:=by
 unfold r104
 by_cases h0:r59 h=0
 case neg=>rw [if_neg h0,if_neg h0]
 rw [if_pos h0,if_pos h0]
 by_cases h1:r102 h f=true
 case neg=>rw [if_neg (fun e=>h1 (r102_iff.2 (by have:=r71_iff.1 (show r71 f 0 ((h.rooms.length:Int) - 1)=true from e); omega))),if_neg (fun e=>h1 e.1)]
 have h1':=r102_iff.1 h1
 have h2:r122 h f=true:=r71_iff.2 (by omega)
 rw [if_pos h2]
 by_cases h3:r88 t=true
 ·rw [if_pos (r69_iff.2 (r88_iff.1 h3)),if_pos ⟨h1,h3⟩,h0]
 ·rw [if_neg (fun e=>h3 (r88_iff.2 (r69_iff.1 e))),if_neg (fun e=>h3 e.2)]
theorem r8_true (h:Hs) (fr ti to_:Int):r8 h fr ti to_=true:=by
 unfold r8
 by_cases c:r20 h=true
 ·rw [if_pos c]
  have hF:=few_of c
  by_cases e:r49 h fr ti to_ 0=0
  ·rw [if_pos e]
   obtain ⟨hV,hf,ht,hto,_⟩:=r49_ok e
   have ea:r50 h fr ti=(r114 h fr ti).1.1:=(arrivals_eq hV ht).symm
   have e48:r48 h fr ti to_=if lget ((r114 h fr ti).1.1) (Int.toNat to_)=1073741824 then ([],5) else ((R48_0 h fr ti to_ (h.rooms.length+1) [] to_).reverse,0):=by
    unfold r48
    rw [if_pos (r102_iff.2 hf),if_pos (r88_iff.2 ht),if_pos (by rw [r102_iff.2 hto,r84_true]; exact hV)]
   rw [ea]
   by_cases ci:lget ((r114 h fr ti).1.1) (Int.toNat to_)=1073741824
   ·rw [if_pos ci] at e48 ⊢
    rw [e48]; rfl
   ·rw [if_neg ci] at e48 ⊢
    obtain ⟨rk,hT⟩:=trees h fr ti
    have hR:=hT hV hf ht
    have b:=(r114_tm hV ht).at (lget_some (l:=(r114 h fr ti).1.1) (i:=to_.toNat) (by have:=(r114_len hV (fr:=fr) ht).1; omega))
    have hrl:=hR.rl to_.toNat (by omega) (by omega)
    obtain ⟨pre,e1,e2⟩:=route_walks hV hR hf.1 ht.1 to_ (r48 h fr ti to_).1 (h.rooms.length+1) [] to_ (by omega) hto (by omega)
    have ep:(r48 h fr ti to_).1=pre.reverse:=by rw [e48,e1]; simp
    have hlen:=r48_len h fr ti to_
    have hr:=hF.r
    have ew:r40 h fr ti (r48 h fr ti to_).1=(to_,lget (r114 h fr ti).1.1 to_.toNat,0):=by
     rw [← walks_eq]
     unfold r39
     rw [if_pos (r102_iff.2 hf),if_pos (by rw [r88_iff.2 ht,r84_true]; exact hV),if_neg (by omega)]
     rw [ep] at e2 ⊢
     rw [e2]; rfl
    rw [ew]
    rw [e48]
    simp
  ·rw [if_neg e]
   have e2:r48 h fr ti to_=([],r49 h fr ti to_ 0):=by
    have e0:r88 0=true:=r88_iff.2 (by omega)
    unfold r49 at e ⊢
    unfold r48
    rw [r104_cs,r104_cs,e0] at e
    rw [r104_cs,r104_cs,e0]
    simp only [r84_eq]
    by_cases h0:r59 h=0
    ·simp only [h0] at e ⊢
     by_cases h1:r102 h fr=true
     ·by_cases h2:r88 ti=true
      ·by_cases h3:r102 h to_=true
       ·simp [h1,h2,h3] at e
       ·simp [h1,h2,h3]
      ·simp [h1,h2]
     ·simp [h1]
    ·simp only [if_neg h0]
     by_cases h1:r102 h fr=true
     ·by_cases h2:r88 ti=true
      ·simp [h0,h1,h2]
      ·simp [h0,h1,h2]
     ·simp [h0,h1]
   rw [e2]
   simp
 ·rw [if_neg c]
end House
end Go.Proofs
