/- Calls by what they mean; results taken out of the boxes; lists. -/
import Derived.Test.YtfhojpnofmlkdaaDoorPvV
import Derived.Test.YtfhojpnofmlkdaaDoorPvT
import Derived.KernelRfl
namespace Go.Proofs.YtfhojpnofmlkdaaDoor.Pv
open Go.RowKit Go.ChangeShapes
set_option linter.unusedSimpArgs false
set_option linter.unusedVariables false
set_option maxHeartbeats 1000000

def Fine (P : Program) (g : Nat) : Prop := ∃ fn, P.funcs[g]? = some fn ∧ fn.body.isNone = false ∧ (fn.name == "runtime.NumGoroutine") = false
/-- the call of g with these arguments returns this -/
def Ok (P : Program) (G : Nat → List PV) (g : Nat) (as : List PV) (r : PV) : Prop := Fine P g ∧ IsoOk P G g as r
def Sh (P : Program) (G : Nat → List PV) (g : Nat) (as : List PV) (hp : List Box) (r : PV) (hp' : List Box) : Prop := Fine P g ∧ ShrOk P G g as hp r hp'
def TabOk (P : Program) (G : Nat → List PV) (t : Tab) : Prop := ∀ p ∈ t, ∀ as r, p.2 as = some r → Ok P G p.1 as r
def TabSOk (P : Program) (G : Nat → List PV) (t : TabS) : Prop := ∀ p ∈ t, ∀ as hp r, p.2 as hp = some r → Sh P G p.1 as hp r.1 r.2
theorem tab_orc {P : Program} {G : Nat → List PV} {sh : Nat → Bool} {t : Tab} {u : TabS} (ht : TabOk P G t) (hu : TabSOk P G u) : OrcOk P G (tab sh t u) := by
  refine ⟨fun g as r h => ?_, fun g as hp r hp' h => ?_⟩
  · simp only [tab] at h
    split at h
    · rename_i k e; exact ht _ (lookup_in e) as r h
    · cases h
  · simp only [tab] at h
    split at h
    · rename_i k e; exact hu _ (lookup_in e) as hp (r, hp') h
    · cases h
theorem orc_ok {P : Program} {X : Cfg} (hE : EnvOk P X) (n : Nat) : OrcOk P X.G (orc P X n) := shr_sound hE n
theorem ok_of_iso {P : Program} {X : Cfg} (hE : EnvOk P X) {n g : Nat} {as : List PV} {r : PV} (h : iso P X n g as = some r) : Ok P X.G g as r := (shr_sound hE n).iso g as r h
theorem iso_of_shr {P : Program} {G : Nat → List PV} {g : Nat} {as : List PV} {r0 p' : PV} {hp' q : List Box} (k2 : ShrOk P G g as [] r0 hp') (h2 : fz deep hp' r0 = some (p', q)) : IsoOk P G g as p' := fun w H vs hsub hg ha => by
  refine (k2 (fun b => b < w.heap.size) H RM.nil w vs ⟨hsub, fun _ hk => hk, fun id bx b cap h => by simp at h, fun i j bi bj b c c' h => by simp at h⟩ sq_nil hg ha).mono fun e w' he => ?_
  obtain ⟨v, H', ρ', rfl, m1, m2, m3, m4⟩ := he
  obtain ⟨H2, kn, r2⟩ := fz_sound deep H' hp' v r0 p' q m2 m4 h2
  exact ⟨v, H2, rfl, m1.bel.below, m1.hH.trans kn.hH, fun b o x hb hx => m1.old b o x hb (kn.old b o x hb hx), kn.wr.sub, r2⟩
/-- q says no more than p -/
def Sub (p q : PV) : Prop := ∀ H v, Rel H RM.nil v p → Rel H RM.nil v q
theorem Sub.refl (p : PV) : Sub p p := fun _ _ h => h
theorem Sub.trans {p q r : PV} (h : Sub p q) (k : Sub q r) : Sub p r := fun H v x => k H v (h H v x)
theorem Sub.any (p : PV) : Sub p .any := fun _ v _ => .any v
theorem rel_emp {H : GH} {ρ : RM} {v : Value} (sz : Nat) (h : Rel H ρ v .emp) : Rel H ρ v (.lst sz []) := by
  cases h with
  | emp a => exact .lst a 0 sz [] 0 0 (fun _ => default) (fun _ => []) (Nat.le_refl _) (fun h => absurd rfl h) (fun j hj => by simp at hj) (fun i e he => by simp at he) (fun i j c hi => by simp at hi)
theorem rel_nils {H : GH} {ρ : RM} {v : Value} (sz : Nat) (h : Rel H ρ v .nils) : Rel H ρ v (.lst sz []) := by
  cases h; exact rel_emp sz (.emp _)
theorem Sub.emp (sz : Nat) : Sub .emp (.lst sz []) := fun _ _ h => rel_emp sz h
theorem Sub.nils (sz : Nat) : Sub .nils (.lst sz []) := fun _ _ h => rel_nils sz h
/-- one by one -/
inductive SubL : List PV → List PV → Prop
  | nil : SubL [] []
  | cons {p q : PV} {ps qs : List PV} (h : Sub p q) (hs : SubL ps qs) : SubL (p :: ps) (q :: qs)
theorem SubL.refl : ∀ l : List PV, SubL l l
  | [] => .nil
  | p :: l => .cons (.refl p) (SubL.refl l)
theorem SubL.len {ps qs : List PV} (h : SubL ps qs) : ps.length = qs.length := by induction h <;> simp_all
theorem SubL.at {ps qs : List PV} (h : SubL ps qs) : ∀ (i : Nat) q, qs[i]? = some q → ∃ p, ps[i]? = some p ∧ Sub p q := by
  induction h with
  | nil => intro i q hq; simp at hq
  | cons h hs ih =>
    intro i q' hq
    cases i with
    | zero => simp at hq; subst hq; exact ⟨_, rfl, h⟩
    | succ i => exact ih i q' hq
theorem SubL.rel {H : GH} {vs : Array Value} {ps qs : List PV} (h : SubL ps qs) (hl : vs.size = ps.length) (hr : ∀ (i : Nat) v c, vs[i]? = some v → ps[i]? = some c → Rel H RM.nil v c) : vs.size = qs.length ∧ ∀ (i : Nat) v c, vs[i]? = some v → qs[i]? = some c → Rel H RM.nil v c :=
  ⟨by rw [hl, h.len], fun i v c hv hc => by obtain ⟨p, h1, h2⟩ := h.at i c hc; exact h2 _ _ (hr i v p hv h1)⟩
theorem Sub.agg {ps qs : List PV} (h : SubL ps qs) : Sub (.agg ps) (.agg qs) := fun H v hv => by
  cases hv with | agg vs _ hl hr => obtain ⟨h1, h2⟩ := h.rel hl hr; exact .agg _ _ h1 h2
theorem Sub.tup {ps qs : List PV} (h : SubL ps qs) : Sub (.tup ps) (.tup qs) := fun H v hv => by
  cases hv with | tup vs _ hl hr => obtain ⟨h1, h2⟩ := h.rel hl hr; exact .tup _ _ h1 h2
theorem Ok.weak {P : Program} {G : Nat → List PV} {g : Nat} {as : List PV} {r r' : PV} (h : Ok P G g as r) (hs : Sub r r') : Ok P G g as r' := ⟨h.1, fun w H vs h1 h2 h3 => (h.2 w H vs h1 h2 h3).mono fun e w' he => by
  obtain ⟨v, H', e1, e2, e3, e4, e5, e6⟩ := he
  exact ⟨v, H', e1, e2, e3, e4, e5, hs _ _ e6⟩⟩
theorem Ok.args {P : Program} {G : Nat → List PV} {g : Nat} {as as' : List PV} {r : PV} (h : Ok P G g as r) (hs : SubL as' as) : Ok P G g as' r := ⟨h.1, fun w H vs h1 h2 h3 => h.2 w H vs h1 h2 (by
  obtain ⟨k1, k2⟩ := hs.rel h3.len h3.rel
  exact ⟨k1, k2⟩)⟩
/-- v, taken out of the boxes hp, is r -/
def Fz (hp : List Box) (v r : PV) : Prop := ∃ r' hp', fz deep hp v = some (r', hp') ∧ Sub r' r
theorem Fz.mk {hp hp' : List Box} {v r : PV} (h : fz deep hp v = some (r, hp')) : Fz hp v r := ⟨r, hp', h, .refl _⟩
/-- **the walk of any law** -/
theorem law_walk2 {Hd : Type} {enc : TypeId × Value → Hd} {P : Program} {G : Nat → List PV} (hL : layB P = true) {W : World} {base g : Nat} {ts : Array TypeId} {args : Array Value} {ds : List (DataW Hd)} {p : List MemPlace} (hG : GRel (HW W) G) (hts : ∀ t ∈ ts.toList, t < P.types.size) (hA : DataW.TrodAll enc P W 0 (fun _ => true) true ts.toList args.toList ds p)
    (hval : ∀ (j : Nat) t v, ts[j]? = some t → args[j]? = some v → Value.okWide P W .any base t v) (pure : ∀ as, Tys P ts.toList as → Ok P G g as (.bool true)) :
    Calls P g args W fun e W' => e = .returned (.bool true) ∧ Below W.heap.size W W' := by
  obtain ⟨as, h1, h2⟩ := trod_all hL ts.toList args.toList ds p hts (fun j t v h3 h4 => hval j t v (by rw [← Array.getElem?_toList]; exact h3) (by rw [← Array.getElem?_toList]; exact h4)) hA
  refine ((pure as h1).2 W (HW W) args (fun b o v h => h) hG ⟨by have := h2.1; simpa using this, fun i v c hv hc => h2.2 i v c (by rw [Array.getElem?_toList]; exact hv) hc⟩).mono fun e W' he => ?_
  obtain ⟨v, H', rfl, hb, _, _, _, hr⟩ := he
  cases hr
  exact ⟨rfl, hb⟩

/-- facts as a table entry -/
theorem ent_ex {α : Type} (P : α → Prop) (f : α → List PV × PV) (hu : ∀ a b, (f a).1 = (f b).1 → (f a).2 = (f b).2) : ∃ h : List PV → Option PV, (∀ a, P a → h (f a).1 = some (f a).2) ∧ ∀ l r, h l = some r → ∃ a, P a ∧ l = (f a).1 ∧ r = (f a).2 := by
  classical
  refine ⟨fun l => if h : ∃ a, P a ∧ l = (f a).1 then some (f (Classical.choose h)).2 else none, fun a ha => ?_, fun l r h => ?_⟩
  · have h' : ∃ b, P b ∧ (f a).1 = (f b).1 := ⟨a, ha, rfl⟩
    show (if h : ∃ b, P b ∧ (f a).1 = (f b).1 then some (f (Classical.choose h)).2 else none) = _
    rw [dif_pos h']
    exact congrArg some (hu _ _ (Classical.choose_spec h').2).symm
  · simp only at h
    split at h
    · rename_i h'
      cases h
      exact ⟨_, (Classical.choose_spec h').1, (Classical.choose_spec h').2, rfl⟩
    · cases h
theorem pcallv_iso {C : Orc} {g : Nat} {as : List PV} {r : PV} {hp : List Box} (hs : C.sh g = false) (hn : as.all (noBoxB deep) = true) (hc : C.iso g as = some r) : pcallv C (.fn g []) as hp = some (r, hp) := by
  unfold pcallv
  simp only [List.append_nil]
  rw [if_neg (by rw [hs]; decide), if_pos hn, hc]; rfl
theorem pcallD_iso {C : Orc} {g : Nat} {as : List PV} {r : PV} {hp : List Box} (hs : C.sh g = false) (hn : as.all (noBoxB deep) = true) (hc : C.iso g as = some r) : (pcallD C (.fn g []) as hp).map (fun (v, more) => (v, hp ++ more)) = some (r, hp) := by
  unfold pcallD
  simp only [List.append_nil]
  rw [if_neg (by rw [hs]; decide), if_pos hn, hc]; simp
/-- a function that gives back a flat value, by what the machine is known to do -/
theorem ok_flat {P : Program} {G : Nat → List PV} {g : Nat} {as : List PV} {r : PV} (hF : Fine P g) (hr : Flat r) (h : ∀ (w : World) (H : GH) (vs : Array Value), (∀ b o v, H b o = some v → w.cell? ⟨b, o, none⟩ = some v) → GRel H G → Args H RM.nil vs as → Calls P g vs w fun e w' => ∃ v, e = .returned v ∧ Below w.heap.size w w' ∧ Rel H RM.nil v r) : Ok P G g as r :=
  ⟨hF, fun w H vs h1 h2 h3 => (h w H vs h1 h2 h3).mono fun e w' he => by
    obtain ⟨v, e1, e2, e3⟩ := he
    exact ⟨v, H, e1, e2, .refl _, fun _ _ _ _ h => h, sub_below h1 e2, e3⟩⟩
theorem wsucc {i : Nat} (h : i < 9223372036854775807) : IntKind.wrap .i64 ((i : Int) + 1) = ((i + 1 : Nat) : Int) := by rw [IntKind.wrap_i64]; omega
/- lists -/
theorem pidx_lst {α : Type} {P : Program} {T E : TypeId} {sz : Nat} {pv : α → PV} {c : List PV} {l : List α} {x : α} {j : Nat} {k : IntKind} (hT : P.underlying T = some (.slice E)) (hE : szT P E = some sz) (h : l[j]? = some x) (hc : (pv x).cells? = some c) :
    pidx P T (.lst sz (l.map pv)) (.int k (j : Int)) = some (.cptr c) := by
  have hj : j < l.length := (List.getElem?_eq_some_iff.1 h).1
  unfold pidx PV.un
  rw [hT]
  simp only [List.length_map, Int.toNat_natCast, List.getElem?_map, h, hE]
  rw [if_pos ⟨by omega, by omega, trivial⟩]
  simp only [Option.map_some, Option.bind_some, hc]
theorem pidx_sl {P : Program} {T E : TypeId} {id sz off len : Nat} {j : Nat} {k : IntKind} (hT : P.underlying T = some (.slice E)) (hE : szT P E = some sz) (h : j < len) :
    pidx P T (.sl id sz off len) (.int k (j : Int)) = some (.ptr id (off * sz + j * sz)) := by
  unfold pidx PV.un
  rw [hT]
  simp only [Int.toNat_natCast, hE]
  rw [if_pos ⟨by omega, by omega, trivial⟩]
theorem fzL_id {f : List Box → PV → Option (PV × List Box)} {hp : List Box} : ∀ cs : List PV, (∀ c ∈ cs, f hp c = some (c, hp)) → fzL f hp cs = some (cs, hp)
  | [], _ => rfl
  | c :: cs, h => by
    unfold fzL
    rw [h c (List.mem_cons_self ..)]
    simp only
    rw [fzL_id cs fun x hx => h x (List.mem_cons_of_mem _ hx)]
theorem fz_sl {d : Nat} {hp : List Box} {id sz len : Nat} {cells : List PV} (hb : hp[id]? = some ⟨sz, cells, 0⟩) (hz : 0 < sz) (hl : len * sz ≤ cells.length) (hc : ∀ c ∈ cells, fz d hp c = some (c, hp)) : fz (d + 1) hp (.sl id sz 0 len) = some (.lst sz (chunk sz len cells), hp.set id ⟨sz, cells, 1⟩) := by
  unfold fz
  simp only [hb]
  rw [if_pos ⟨trivial, hz, by simpa using hl⟩, if_pos trivial, fzL_id cells hc]
  simp only [hb]
  rw [if_pos trivial]
  simp
theorem chunk_map {α : Type} {sz : Nat} {cs : α → List PV} {pv : α → PV} (hs : ∀ a, (cs a).length = sz) (he : ∀ a, elemOf sz (cs a) = pv a) : ∀ l : List α, chunk sz l.length (l.flatMap cs) = l.map pv
  | [] => rfl
  | a :: l => by
    rw [List.length_cons, List.flatMap_cons]
    unfold chunk
    rw [List.take_left' (hs a), List.drop_left' (hs a), he a, chunk_map hs he l]
    rfl
theorem chunk_one {α : Type} {f : α → PV} (ha : ∀ a, (f a).atom = true) : ∀ l : List α, chunk 1 l.length (l.map f) = l.map f
  | [] => rfl
  | a :: l => by
    rw [List.length_cons, List.map_cons]
    unfold chunk
    have : List.take 1 (f a :: List.map f l) = [f a] := rfl
    rw [this]
    have e : elemOf 1 [f a] = f a := by show (if 1 = 1 ∧ (f a).atom = true then f a else .agg [f a]) = f a; rw [if_pos ⟨rfl, ha a⟩]
    rw [e]
    show f a :: chunk 1 l.length (l.map f) = _
    rw [chunk_one ha l]
theorem flatMap_len {α : Type} {sz : Nat} {cs : α → List PV} (hs : ∀ a, (cs a).length = sz) : ∀ l : List α, (l.flatMap cs).length = l.length * sz
  | [] => by simp
  | a :: l => by rw [List.flatMap_cons, List.length_append, hs a, flatMap_len hs l, List.length_cons, Nat.add_mul]; omega
/-- a box of plain numbers and the like comes out as a list -/
theorem Fz.one {α : Type} {hp : List Box} {id : Nat} {f : α → PV} {l : List α} (ha : ∀ a, (f a).atom = true) (hf : ∀ d hp a, fz (d + 1) hp (f a) = some (f a, hp)) (hb : hp[id]? = some ⟨1, l.map f, 0⟩) : fz deep hp (.sl id 1 0 l.length) = some (.lst 1 (l.map f), hp.set id ⟨1, l.map f, 1⟩) := by
  rw [show deep = 5 + 1 from rfl, fz_sl hb (by decide) (by simp) (fun c hc => by obtain ⟨a, _, rfl⟩ := List.mem_map.1 hc; exact hf _ _ _), chunk_one ha]
theorem Fz.many {α : Type} {hp : List Box} {id sz : Nat} {cs : α → List PV} {pv : α → PV} {l : List α} (hz : 0 < sz) (hs : ∀ a, (cs a).length = sz) (he : ∀ a, elemOf sz (cs a) = pv a) (hf : ∀ a, ∀ c ∈ cs a, ∀ d hp, fz (d + 1) hp c = some (c, hp)) (hb : hp[id]? = some ⟨sz, l.flatMap cs, 0⟩) : fz deep hp (.sl id sz 0 l.length) = some (.lst sz (l.map pv), hp.set id ⟨sz, l.flatMap cs, 1⟩) := by
  rw [show deep = 5 + 1 from rfl, fz_sl hb hz (by rw [flatMap_len hs]; exact Nat.le_refl _) (fun c hc => by obtain ⟨a, _, h⟩ := List.mem_flatMap.1 hc; exact hf a c h _ _), chunk_map hs he]
end Go.Proofs.YtfhojpnofmlkdaaDoor.Pv
