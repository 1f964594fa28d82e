/- Package state: append that tells where; Go's slices.Contains by its draws alone, Compact, DeleteFunc over rows of texts. -/
import Derived.Deep.AppendLies
import Derived.Laws.OwnMore
import Derived.Test.YtnknejokneddbaaGreatDoorStaV
import Derived.Test.YtnknejokneddbaaGreatDoorPur
import Derived.Test.YtnknejokneddbaaGreatDoorStaL
namespace Go.Proofs.YtnknejokneddbaaGreatDoor
set_option maxHeartbeats 8000000
set_option maxRecDepth 100000
open Go.RowKit Go.Shelf Go.Lib Go.Sort
theorem run_append_apart {P : Program} {w : World} (t ty : TypeId) (base : Nat) (e : TypeId) (i : TypeInfo) (z : Value) (size bytes : Nat) (ht : P.underlying t = some (.slice e)) (hi : P.info? e = some i) (hz : i.zero = some z)
  (hsize : i.size = size) (hby : i.bytes = bytes) (hzs : z.cells.size = size) (hsz : 0 < size)
  (v : Value) (n : Nat) (xs : List Value) (hown : w.ownsRow base e size v n xs)
  (px : Option Addr) (m c : Nat) (news : List Value) (hl : news.length = m * size)
  (hsrc : (px = none /\ m = 0 /\ c = 0) ∨ ∃ ad, px = some ad /\ ∀ j u, news[j]? = some u -> w.cell? (ad.add j) = some u) (h1 : ∀ u ∈ news, u.oneCell' = true)
  (h63 : n + m <= maxLen) (hbytes : (n + m) * bytes <= 140737488355328) (hbase : base <= w.heap.size) :
  ∃ p' c' w', (Builtin.append_ #[t, t] ty #[v, .slice px m c]).run P w = .ok (.slice p' (n + m) c') w' /\ w'.ownsRow base e size (.slice p' (n + m) c') (n + m) (xs ++ news) /\ w.grownBy w' v.ownBlock /\
   ∀ g, (Value.slice p' (n + m) c').ownBlock = some g -> v.ownBlock = some g ∨ g = w.heap.size := by
 rcases hsrc with ⟨rfl, rfl, rfl⟩ | ⟨ad, rfl, hnews⟩
 ·have hnl : news = [] := Xu (by omega)
  subst hnl
  obtain ⟨p', c', rfl⟩ := Xs hown
  exact ⟨p', c', w, run_append_owned_none (P := P) (w := w) base t ty e i size ht hi _ n xs hown, by simpa using hown, Zi _ _, fun g hg => .inl hg⟩
 ·rcases Nat.eq_zero_or_pos m with rfl | hm
  ·have hnl : news = [] := Xu (by omega)
   subst hnl
   rcases hown.2 with ⟨rfl, rfl⟩ | ⟨g, cap, cur, rfl, hb, hg, hle, _⟩
   ·obtain ⟨v', w', r1, r2, r3, r4⟩ := run_append_own (P := P) w base t ty e i z size bytes ht hi hz hsize hby hzs hsz _ 0 xs hown ad 0 c [] hl hnews h1 h63 hbytes hbase
    obtain rfl := r4.2 ⟨rfl, rfl⟩
    exact ⟨none, 0, w', r1, r2, r3, fun g hg => by cases hg⟩
   ·obtain ⟨w', r1, r2, r3⟩ := run_append_fits (P := P) (w := w) base t ty e i size ht hi hsize g n cap xs hown ad 0 c [] hl hnews h1 (by omega)
    exact ⟨_, cap, w', r1, r2, r3, fun g' hg' => .inl hg'⟩
  ·obtain ⟨g, cap, w', r1, r2, r3, r4, _⟩ := run_append_lies (P := P) (w := w) t ty base e i z size bytes ht hi hz hsize hby hzs hsz v n xs hown ad m c news hl hnews h1 hm h63 hbytes hbase w.heap.size rfl
   refine ⟨_, cap, w', r1, r2, r3, fun g' hg' => ?_⟩
   obtain rfl : g = g' := by simpa [Value.ownBlock] using hg'
   exact r4
theorem wpListIn_append_apart {F : Fence} {k0 : Nat} {P : Program} {w : World} {ops : Array Oper} {rest : List Oper} {o : Oper} {a : Act} {Q : Exit -> Act -> World -> Prop} (hgd : o.guard = none) (s x : Operand) (t : TypeId)
  (ho : o.op = .call { callee := .builtin .append, args := #[s, x], argTypes := #[t, t] })
  (base : Nat) (e : TypeId) (i : TypeInfo) (z : Value) (size bytes : Nat) (ht : P.underlying t = some (.slice e)) (hi : P.info? e = some i) (hz : i.zero = some z)
  (hsize : i.size = size) (hby : i.bytes = bytes) (hzs : z.cells.size = size) (hsz : 0 < size)
  (v : Value) (n : Nat) (xs : List Value) (hs : a.eval s = v) (hown : w.ownsRow base e size v n xs)
  (px : Option Addr) (m c : Nat) (news : List Value) (hx : a.eval x = .slice px m c) (hl : news.length = m * size)
  (hsrc : (px = none /\ m = 0 /\ c = 0) ∨ ∃ ad, px = some ad /\ ∀ j u, news[j]? = some u -> w.cell? (ad.add j) = some u) (h1 : ∀ u ∈ news, u.oneCell' = true)
  (h63 : n + m <= maxLen) (hbytes : (n + m) * bytes <= 140737488355328) (hbase : base <= w.heap.size)
  (h : ∀ p' c' w', w'.ownsRow base e size (.slice p' (n + m) c') (n + m) (xs ++ news) -> w.grownBy w' v.ownBlock -> (∀ g, (Value.slice p' (n + m) c').ownBlock = some g -> v.ownBlock = some g ∨ g = w.heap.size) -> wpListIn F k0 P ops Q rest (a.put o.dst (.slice p' (n + m) c')) w') : wpListIn F k0 P ops Q (o :: rest) a w := by
 refine wpListIn_plain hgd fun K hK => ?_
 obtain ⟨p', c', w', hrun, r1, r2, r3⟩ := run_append_apart (P := P) (w := w) t o.type base e i z size bytes ht hi hz hsize hby hzs hsz v n xs hown px m c news hl hsrc h1 h63 hbytes hbase
 unfold Oper.wpIn
 refine ⟨?_, ?_⟩
 ·simp [Oper.about, ho, resolve, Target.leads, Sem.run_pure]
 ·rw [Oper.semAt_plain F _ _ (by rw [ho]; intro c hc'; cases hc')]
  simp [execOp, ho, resolve, invoke, builtin, hs, hx, hrun, Result.andThen]
  exact hK _ _ (h p' c' w' r1 r2 r3)
theorem idxS_q (p : Option Addr) (n c lo hi : Nat) (l : List ByteArray) (x : ByteArray) (r : Bool) (w : World) (hp : StrsAt w lo hi p n l) (hn : n <= 1000000) (hr : r = true ↔ x ∈ l) :
  Calls Tryz.prog 95 #[.slice p n c, .string x] w fun e w' => (∃ v : Int, e = .returned (.int .i64 v) /\ decide (0 <= v) = r) /\ ∃ q, w' = w.drewN q := by
 have HP := Za hp
 have HR := Za hr
 have HPL := Za hp.len
 clear hp hr
 go_enter Tryz.func95, Tryz.ntmps95
 go_wp2
 go_loopw [8] (fun i wr => ∃ k : Nat, k <= n /\ i = .int .i64 k /\ Hid (∀ j, j < k -> l[j]?.getD ByteArray.empty ≠ x) /\ Hid (∃ q, wr = w.drewN q)) (fun i _ => n - (intOf i).toNat)
 case atStart => exact ⟨0, Ze _, rfl, Za (fun j hj => absurd hj (Zy _)), Za ⟨0, rfl⟩⟩
 case round =>
  obtain ⟨k, hk, rfl, HE, HG⟩ := hrel
  by_cases hkn : k < n
  ·have k0 : (0 : Int) <= k := by omega
   have k1 : (k : Int) < n := by omega
   obtain ⟨b, o, rfl, _, _, _, hc⟩ := (HP.out.calm (show w.grownBy wr none from by obtain ⟨z, hz⟩ := HG.out; rw [hz]; exact Zo w z none)).cell (by omega)
   have cy := hc k hkn
   have HU := Za (show l[k]?.getD ByteArray.empty ≠ x -> ∀ j, j < k + 1 -> l[j]?.getD ByteArray.empty ≠ x from fun h => Yk (q := fun j => l[j]?.getD ByteArray.empty ≠ x) HE.out h)
   have HM := Za (Zr (d := ByteArray.empty) (show k < l.length by rw [HPL.out]; exact hkn))
   have HG2 : Hid (∀ z, ∃ q, wr.drewN z = w.drewN q) := Za (fun z => by obtain ⟨z0, e⟩ := HG.out; exact ⟨z0 + z, by rw [e, World.drewN_drewN]⟩)
   clear hc HE
   generalize l[k]?.getD ByteArray.empty = y at *
   by_cases hxy : x = y
   ·obtain rfl : r = true := HR.out.2 (by rw [hxy]; exact HM.out)
    have e1 := Xz hxy
    clear HU HM hxy
    go_wp2
    try go_quiet (fail)
    try go_wp2
    go_ret
    exact ⟨⟨k, rfl, by simp⟩, by first | exact HG.out | exact HG2.out _⟩
   ·have HU2 := Za (HU.out fun h => hxy h.symm)
    have e1 := Xt hxy
    clear HU HM
    go_wp2
    try go_quiet (fail)
    try go_wp2
    exact ⟨⟨k + 1, by omega, by go_num, HU2, by first | exact HG | exact Za (HG2.out _)⟩, by simp [intOf]; omega⟩
  ·obtain rfl : n = k := by omega
   have k1 : ¬ ((n : Int) < n) := by omega
   obtain rfl : r = false := Zj HR.out fun h => by
    obtain ⟨j, hj, e⟩ := Xx (d := ByteArray.empty) h
    exact HE.out j (by rw [<- HPL.out]; exact hj) e
   go_wp2
   go_ret
   exact ⟨⟨-1, rfl, by simp⟩, HG.out⟩
theorem conS_q (p : Option Addr) (n c lo hi : Nat) (l : List ByteArray) (x : ByteArray) (r : Bool) (w : World) (hp : StrsAt w lo hi p n l) (hn : n <= 1000000) (hr : r = true ↔ x ∈ l) :
  Calls Tryz.prog 59 #[.slice p n c, .string x] w fun e w' => e = .returned (.bool r) /\ (∃ q, w' = w.drewN q) := by
 go_enter Tryz.func59, Tryz.ntmps59
 go_wp2_with fail
 refine (idxS_q p n c lo hi l x r w hp hn hr).mono ?_
 rintro e w5 ⟨⟨v, rfl, hv⟩, hg⟩
 clear hp hr
 cases r with
 | true =>
  have hv' : 0 <= v := of_decide_eq_true hv
  go_wp2
  go_ret
  exact ⟨rfl, hg⟩
 | false =>
  have hv' : ¬ 0 <= v := of_decide_eq_false hv
  go_wp2
  go_ret
  exact ⟨rfl, hg⟩
theorem heap_putV {α : Type} [Inhabited α] (enc : α -> Value) {w : World} {g n : Nat} {cur : Array Value} {e : TypeId} {fr : Nat × Nat} (d : Array α) (hb : w.heap[g]? = some (.cells cur e fr)) :
  (putRow enc (Sort.ahead w n) g 0 d).heap[g]? = some (.cells (putCells enc 0 d cur) e fr) := by
 simp [putRow, mapBlock, Sort.ahead, Array.getElem?_modify, hb, onCells]
theorem take_putE {α : Type} [Inhabited α] (enc : α -> Value) (cur : Array Value) (ts us : List α) (h : (ts ++ us).length <= cur.size) : (putCells enc 0 (ts ++ us).toArray cur).toList.take ts.length = ts.map enc := by
 rw [Zq] at h
 apply List.ext_getElem?
 intro j
 by_cases hj : j < ts.length
 ·rw [Xy hj, Array.getElem?_toList]
  simp [putCells, hj, show j < cur.size by omega, show j < ts.length + us.length by omega, List.getElem_append_left hj]
 ·rw [List.getElem?_take_eq_none (by omega), List.getElem?_eq_none (by simp; omega)]
theorem ownsRow_put {α : Type} [Inhabited α] (enc : α -> Value) {w : World} {base g cap n q : Nat} {cur : Array Value} {e : TypeId} (hb : base <= g) (hg : w.heap[g]? = some (.cells cur e (0, 0))) (hm : cap <= maxLen) (hc : cur.size = cap * 1) (ts us : List α) (hl : ts.length + us.length = n) (hn : n <= cap) :
  (putRow enc (Sort.ahead w q) g 0 (ts ++ us).toArray).ownsRow base e 1 (.slice (some ⟨g, 0, none⟩) ts.length cap) ts.length (ts.map enc) :=
 ⟨by simp, .inr ⟨g, cap, _, rfl, hb, heap_putV enc _ hg, by omega, hm, by simp [putCells, hc], by rw [Nat.mul_one]; exact take_putE enc cur ts us (by rw [Zq]; omega)⟩⟩
theorem compactS_o (ss zs : List (List UInt8)) (hz : zs = ss.mergeSort fun x y => decide (x <= y)) (base : Nat) (v : Value) (w : World) (h : w.ownsRow base 9 1 v ss.length (zs.map encStr)) (hn : ss.length <= 1000000) :
  Calls Tryz.prog 57 #[v] w fun e w' => ∃ v' R, e = .returned v' /\ w'.ownsRow base 9 1 v' (R : List ByteArray).length (scells R) /\ risR ltS R /\ (∀ x, x ∈ R ↔ bl x ∈ ss) /\ R.length <= ss.length /\ v'.ownBlock = v.ownBlock /\ w.grownBy w' v.ownBlock := by
 have hzl : zs.length = ss.length := by rw [hz]; exact List.length_mergeSort ss
 rcases h.2 with ⟨rfl, h0⟩ | ⟨g, cap, cur, rfl, hb, hg, hle, h2, h3, h4⟩
 ·have hs : ss = [] := Xu h0
  subst hs
  refine (Tryz.slices_Compact_string_empty none 0 w).mono ?_
  rintro e w' ⟨rfl, rfl⟩
  exact ⟨_, [], rfl, Yp _ _ _ _, Vb, fun x => by simp, Zc _, rfl, Zi _ _⟩
 ·have hH : Holds encStr w g 0 zs.toArray := Go.holds_of_block hg (by rw [hzl]; simpa using h4)
  have hc := Tryz.slices_Compact_string g 0 cap zs w hH (by omega) (by omega)
  rw [hzl] at hc
  refine hc.mono ?_
  rintro e w' ⟨rfl, q, rfl⟩
  obtain ⟨hr1, hr2⟩ := compUp_ris linB zs.toArray zs.length (by rw [hz]; intro i j hij hj; exact mergeB_sorted ss i j hij (by simpa using hj)) zs.length (Zc _)
  have hmem := compUp_mem zs.toArray zs.length
  have hcl := comp_len zs
  change risR ltB (Lib.compact zs) at hr1
  change ∀ x, x ∈ Lib.compact zs ↔ _ at hmem
  have hlen : ((Lib.compact zs).map mkB).length = (Lib.compact zs).length := Yn _
  have hsc : scells ((Lib.compact zs).map mkB) = (Lib.compact zs).map encStr := by
   have : ((Lib.compact zs).map mkB).map bl = Lib.compact zs := by
    rw [List.map_map]
    exact (List.map_congr_left (g := id) (fun x _ => bl_mk x)).trans (List.map_id _)
   rw [scells_bl, this]
  have hown := ownsRow_put encStr (q := q) hb hg h2 h3 (Lib.compact zs) (List.replicate (ss.length - (Lib.compact zs).length) []) (n := ss.length) (by rw [List.length_replicate]; omega) hle
  refine ⟨_, (Lib.compact zs).map mkB, rfl, by rw [hlen, hsc]; exact hown, ?_, fun x => ?_, by rw [hlen]; omega, rfl, grownBy_put encStr _⟩
  ·refine Vi.2 (hr1.imp fun {a b} h => ?_)
   show Op.bytesLess (mkB a).toList (mkB b).toList = true
   rw [ByteArray.toList_eq, ByteArray.toList_eq]
   simpa [mkB, ltB] using h
  ·rw [Yi]
   constructor
   ·rintro ⟨y, hy, rfl⟩
    rw [bl_mk]
    obtain ⟨j, hj, e⟩ := (hmem y).1 hy
    have : y ∈ zs := by
     rw [<- e, getElem!_pos _ j (by simpa using hj)]
     simp
    rw [hz] at this
    exact List.mem_mergeSort.1 this
   ·intro hx
    refine ⟨bl x, (hmem _).2 ?_, mk_bl x⟩
    have : bl x ∈ zs := by rw [hz]; exact List.mem_mergeSort.2 hx
    obtain ⟨j, hj, e⟩ := Xw this
    exact ⟨j, hj, by rw [getElem!_pos _ j (by simpa using hj)]; simpa using e⟩
theorem dropped_gives (p : Option Addr) (n c lo hi : Nat) (l : List ByteArray) (B : Nat) (s : ByteArray) (W : World) (hc : W.cell? ⟨B, 0, none⟩ = some (.slice p n c)) (hp : StrsAt W lo hi p n l) (hn : n <= 1000000) :
  FnGives Tryz.prog 58 #[.pointer (some ⟨B, 0, none⟩)] #[.string s] (.bool (l.any fun d => decide (d = s))) W := by
 have HCN := Za (conS_q p n c lo hi l s (l.any fun d => decide (d = s)) W hp hn (by
  rw [List.any_eq_true]
  constructor
  ·rintro ⟨x, hx, e⟩
   rw [Yb] at e
   rw [<- e]; exact hx
  ·intro h
   exact ⟨s, h, by simp⟩))
 show Calls Tryz.prog 58 #[.string s, .pointer (some ⟨B, 0, none⟩)] W _
 clear hp
 generalize (l.any fun d => decide (d = s)) = r at *
 go_enter Tryz.func58, Tryz.ntmps58
 go_wp2_with (go_at_call 59; refine HCN.out.mono ?_; rintro e w9 ⟨rfl, q, rfl⟩)
 go_ret
 exact ⟨rfl, q, rfl⟩
theorem deleteS_nil (fv : Value) (g : Nat) (lb : Array Value) (hfv : fv = .func (.func g) #[] lb) (w : World) :
  Calls Tryz.prog 56 #[.slice none 0 0, fv] w fun e w' => e = .returned (.slice none 0 0) /\ w' = w := by
 subst hfv
 have hI : ∀ W, Calls Tryz.prog 94 #[.slice none 0 0, .func (.func g) #[] lb] W fun e w' => e = .returned (.int .i64 (-1)) /\ w' = W := fun W => by
  go_enter Tryz.func94, Tryz.ntmps94
  go_wp2
  refine wp_loop_rounds 1 ?_
  rw [rounds_succ]
  go_wp2
  go_ret
  exact ⟨rfl, rfl⟩
 go_enter Tryz.func56, Tryz.ntmps56
 go_wp2_with (go_at_call 94; refine (hI _).mono ?_; rintro e w' ⟨rfl, h9⟩; subst w')
 go_ret
 exact ⟨rfl, rfl⟩
theorem deleteS_c (p : Option Addr) (n c lo hi : Nat) (l : List ByteArray) (B : Nat) (R : List ByteArray) (base : Nat) (v : Value) (w : World) (hc : w.cell? ⟨B, 0, none⟩ = some (.slice p n c)) (hp : StrsAt w lo hi p n l) (hn : n <= 1000000) (hR : R.length <= 1000000)
  (hv : w.ownsRow base 9 1 v R.length (scells R)) (hB : some B ≠ v.ownBlock) (hBl : B < w.heap.size) (hd : ∀ b, v.ownBlock = some b -> hi <= b ∨ b < lo) (hhi : hi <= w.heap.size) :
  Calls Tryz.prog 56 #[v, .func (.func 58) #[] #[.pointer (some ⟨B, 0, none⟩)]] w fun e w' =>
   ∃ v', e = .returned v' /\ w'.ownsRow base 9 1 v' (R.filter (notIn l)).length (scells (R.filter (notIn l))) /\ w.grownBy w' v.ownBlock := by
 rcases hv.2 with ⟨rfl, h0⟩ | ⟨g, cap, cur, rfl, hb, hg, hle, h2, h3, h4⟩
 ·have hs : R = [] := Xu h0
  subst hs
  refine (deleteS_nil _ _ _ rfl w).mono ?_
  rintro e w' ⟨rfl, rfl⟩
  exact ⟨_, rfl, by simpa using hv, Zi _ _⟩
 ·have hgl := (Zp.1 hg).1
  have hne : B ≠ g := fun e => hB (by rw [e]; rfl)
  have hdg := hd g rfl
  have hH : Holds Value.string w g 0 R.toArray := by
   intro j hj
   have hj' : j < R.length := by simpa using hj
   refine ⟨?_, by simp [World.frozen?, hg]⟩
   have h5 : (cur.toList.take R.length)[j]? = (R.map Value.string)[j]? := by
    have := h4
    rw [Nat.mul_one] at this
    rw [this]; rfl
   rw [Xy hj'] at h5
   simp only [World.cell?, hg, Yj]
   simp only [Option.isSome_none, Bool.false_eq_true, if_false]
   rw [<- Array.getElem?_toList, h5]
   simp [hj']
  have hnt : ∀ x, notIn l x = !(l.any fun d => decide (d = x)) := fun x => rfl
  have hcon := Tryz.slices_DeleteFunc_str (fun s => l.any fun d => decide (d = s)) 58 #[.pointer (some ⟨B, 0, none⟩)] (enters_of Tryz.func58 (by kernel_rfl) rfl) .empty Tryz.zeroValue9 g 0 cap R.toArray w
   (fun W x hW => dropped_gives p n c lo hi l B x W ((hW.cell (p := ⟨B, 0, none⟩) hBl).trans hc) (hp.stay (below_stay hW hhi)) hn)
   (fun m os dk x _ => by
    have hcell : ∀ a : Addr, a.block < w.heap.size -> a.block ≠ g -> (sortWorld Value.string w g 0 m dk os).cell? a = w.cell? a := by
     intro a ha hag
     unfold sortWorld
     rw [cell?_grow _ _ _ (by show a.block < (putRow _ _ _ _ _).heap.size; rw [size_putRow]; exact ha), cell?_putRow_other _ _ g 0 _ _ (Or.inl hag)]
     rfl
    refine dropped_gives p n c lo hi l B x _ ((hcell ⟨B, 0, none⟩ hBl hne).trans hc) ⟨hp.len, fun h0 => ?_⟩ hn
    obtain ⟨b', off', e, e1, e2, e3, e4⟩ := hp.cell h0
    refine ⟨b', off', e, e1, e2, ?_, fun i hi => ?_⟩
    ·unfold sortWorld
     rw [size_grow, size_putRow]
     exact Zn e3 (Nat.le_add_right _ _)
    ·rw [hcell ⟨b', off' + i, none⟩ (by show b' < _; omega) (by show b' ≠ g; omega)]
     exact e4 i hi)
   hH (by simp; omega) (by simpa using hle)
  rw [Xg] at hcon
  refine hcon.mono ?_
  rintro e w' ⟨rfl, q, rfl⟩
  have hl := List.length_filter_le (notIn l) R
  have hown := ownsRow_put Value.string (q := q) hb hg h2 h3 (R.filter (notIn l)) (List.replicate (R.length - (R.filter (notIn l)).length) .empty) (n := R.length) (by rw [List.length_replicate]; omega) hle
  exact ⟨_, rfl, hown, grownBy_put Value.string _⟩
attribute [local go_sem] Oper.semAt_some
theorem own_ge {w : World} {base : Nat} {e : TypeId} {size n : Nat} {v : Value} {xs : List Value} (h : w.ownsRow base e size v n xs) {g : Nat} (hg : v.ownBlock = some g) : base <= g /\ g < w.heap.size /\ ∃ cur, w.heap[g]? = some (.cells cur e (0, 0)) := by
 rcases h.2 with ⟨rfl, _⟩ | ⟨g', cap, cur, rfl, hb, hc, _⟩
 ·cases hg
 ·obtain rfl : g' = g := by simpa [Value.ownBlock] using hg
  exact ⟨hb, (Zp.1 hc).1, cur, hc⟩
theorem KeepT.own {t e : TypeId} {W W1 : World} {base size n : Nat} {v : Value} {xs : List Value} (h : W.ownsRow base e size v n xs) (hg : W.grownBy W1 v.ownBlock) (ht : t ≠ e) : KeepT t W W1 := by
 intro g cur hc
 refine (hg.block g (Zp.1 hc).1 fun e' => ?_).trans hc
 obtain ⟨_, _, cur', hc'⟩ := own_ge h e'.symm
 rw [hc] at hc'
 cases hc'
 exact ht rfl
theorem below_own {W W1 : World} {e : TypeId} {base size n : Nat} {v : Value} {xs : List Value} (h : W.ownsRow base e size v n xs) (hB : base <= W.heap.size) (hg : W.grownBy W1 v.ownBlock) : Below base W W1 :=
 ⟨hg.os, hg.tape, hg.output, hg.size, fun k hk => hg.block k (by omega) fun e' => by have := (own_ge h e'.symm).1; omega⟩
theorem keepsFrom_own {B : Nat} {W W1 : World} {e : TypeId} {base size n : Nat} {v : Value} {xs : List Value} (h : W.ownsRow base e size v n xs) (hg : W.grownBy W1 v.ownBlock) : KeepsFrom B W W1 :=
 ⟨hg.size, fun k o _ hk ho => (hg.block k (Zp.1 hk).1 fun e' => by
  obtain ⟨_, _, cur, hc⟩ := own_ge h e'.symm
  rw [hk] at hc
  cases hc
  cases ho).trans hk⟩
structure TrV (w : World) (v1 v2 : Value) (A D : List ByteArray) (W : World) : Prop where
 b1 : Boxed W w.heap.size 48 v1
 b2 : Boxed W (w.heap.size + 1) 48 v2
 r1 : W.ownsRow w.heap.size 9 1 v1 A.length (scells A)
 r2 : W.ownsRow w.heap.size 9 1 v2 D.length (scells D)
 ap : ∀ g, v1.ownBlock = some g -> v2.ownBlock ≠ some g
 bl : Below w.heap.size w W
theorem row_kept {W W' : World} {base : Nat} {e : TypeId} {size n : Nat} {v : Value} {xs : List Value} {row : Option Nat} (h : W.ownsRow base e size v n xs) (hg : W.grownBy W' row) (hne : ∀ g, v.ownBlock = some g -> some g ≠ row) : W'.ownsRow base e size v n xs := by
 refine ⟨h.1, ?_⟩
 rcases h.2 with h1 | ⟨g, cap, cur, rfl, h1, h2, h3⟩
 ·exact .inl h1
 ·exact .inr ⟨g, cap, cur, rfl, h1, (hg.block g (Zp.1 h2).1 (hne g rfl)).trans h2, h3⟩
theorem TrV.kept {w W W' : World} {v1 v2 : Value} {A D : List ByteArray} {row : Option Nat} (h : TrV w v1 v2 A D W) (hg : W.grownBy W' row) (hr : ∀ r, row = some r -> w.heap.size <= r /\ ∃ o : Obj, W.heap[r]? = some o /\ o.isCells = false) : TrV w v1 v2 A D W' := by
 have hb : ∀ {B : Nat} {t : TypeId} {v : Value}, Boxed W B t v -> some B ≠ row := fun hB e => by
  obtain ⟨_, o, ho, hc⟩ := hr _ e.symm
  rw [show W.heap[_]? = _ from hB] at ho
  cases ho
  cases hc
 have hrw : ∀ {v : Value} {n : Nat} {xs : List Value}, W.ownsRow w.heap.size 9 1 v n xs -> ∀ g, v.ownBlock = some g -> some g ≠ row := fun hv g e1 e => by
  obtain ⟨_, o, ho, hc⟩ := hr _ e.symm
  obtain ⟨_, _, cur, hcur⟩ := own_ge hv e1
  rw [hcur] at ho
  cases ho
  cases hc
 refine ⟨h.b1.kept hg (hb h.b1), h.b2.kept hg (hb h.b2), row_kept h.r1 hg (hrw h.r1), row_kept h.r2 hg (hrw h.r2), h.ap, h.bl.trans ⟨hg.os, hg.tape, hg.output, hg.size, fun k hk => hg.block k (Yt hk h.bl.size) fun e => ?_⟩⟩
 have := (hr _ e.symm).1
 omega
theorem TrV.app1 {w W W1 : World} {v1 v2 v : Value} {A D E : List ByteArray} (h : TrV w v1 v2 A D W) (hg : W.grownBy W1 v1.ownBlock) (hv : W1.ownsRow w.heap.size 9 1 v (A ++ E).length (scells (A ++ E))) (ha : ∀ g, v.ownBlock = some g -> v1.ownBlock = some g ∨ g = W.heap.size) :
  TrV w v v2 (A ++ E) D (W1.setCell ⟨w.heap.size, 0, none⟩ v) := by
 have n1 : some w.heap.size ≠ v1.ownBlock := h.b1.not_row (by decide) h.r1
 have n2 : some (w.heap.size + 1) ≠ v1.ownBlock := h.b2.not_row (by decide) h.r1
 have x1 := h.b1.kept hg n1
 have x2 := h.b2.kept hg n2
 have x3 := row_kept h.r2 hg (fun g e e' => h.ap g e'.symm e)
 have hgs := grownBy_setCell' W1 w.heap.size v
 refine ⟨x1.set _, x2.other (by omega) _, row_kept hv hgs fun g e e' => ?_, row_kept x3 hgs fun g e e' => ?_, fun g e e' => ?_, (h.bl.trans (below_own h.r1 h.bl.size hg)).setCell (p := ⟨w.heap.size, 0, none⟩) (Zc _) _⟩
 ·exact x1.not_row (by decide) hv (by rw [e, e'])
 ·exact x1.not_row (by decide) x3 (by rw [e, e'])
 ·rcases ha g e with h1 | rfl
  ·exact h.ap g h1 e'
  ·have := (own_ge h.r2 e').2.1
   omega
theorem TrV.app2 {w W W1 : World} {v1 v2 v : Value} {A D E : List ByteArray} (h : TrV w v1 v2 A D W) (hg : W.grownBy W1 v2.ownBlock) (hv : W1.ownsRow w.heap.size 9 1 v (D ++ E).length (scells (D ++ E))) (ha : ∀ g, v.ownBlock = some g -> v2.ownBlock = some g ∨ g = W.heap.size) :
  TrV w v1 v A (D ++ E) (W1.setCell ⟨w.heap.size + 1, 0, none⟩ v) := by
 have n1 : some w.heap.size ≠ v2.ownBlock := h.b1.not_row (by decide) h.r2
 have n2 : some (w.heap.size + 1) ≠ v2.ownBlock := h.b2.not_row (by decide) h.r2
 have x1 := h.b1.kept hg n1
 have x2 := h.b2.kept hg n2
 have x3 := row_kept h.r1 hg (fun g e e' => h.ap g e e'.symm)
 have hgs := grownBy_setCell' W1 (w.heap.size + 1) v
 refine ⟨x1.other (by omega) _, x2.set _, row_kept x3 hgs fun g e e' => ?_, row_kept hv hgs fun g e e' => ?_, fun g e e' => ?_, (h.bl.trans (below_own h.r2 h.bl.size hg)).setCell (p := ⟨w.heap.size + 1, 0, none⟩) (by show w.heap.size <= w.heap.size + 1; omega) _⟩
 ·exact x2.not_row (by decide) x3 (by rw [e, e'])
 ·exact x2.not_row (by decide) hv (by rw [e, e'])
 ·rcases ha g e' with h1 | rfl
  ·exact h.ap g e h1
  ·have := (own_ge h.r1 e).2.1
   omega
theorem TrV.keep1 {w W W1 : World} {v1 v2 v : Value} {A D : List ByteArray} (h : TrV w v1 v2 A D W) (hg : W.grownBy W1 v1.ownBlock) : KeepR w.heap.size W (W1.setCell ⟨w.heap.size, 0, none⟩ v) /\ KeepsFrom w.heap.size W (W1.setCell ⟨w.heap.size, 0, none⟩ v) := by
 have x1 := h.b1.kept hg (h.b1.not_row (by decide) h.r1)
 exact ⟨⟨(below_own h.r1 h.bl.size hg).setCell (p := ⟨w.heap.size, 0, none⟩) (Zc _) _, (KeepT.own h.r1 hg (by decide)).trans (KeepT.turn (grownBy_setCell' _ _ _) x1 (by decide))⟩, (keepsFrom_own h.r1 hg).trans ((KeepsOthers.setCell _ _ _).from _)⟩
theorem TrV.keep2 {w W W1 : World} {v1 v2 v : Value} {A D : List ByteArray} (h : TrV w v1 v2 A D W) (hg : W.grownBy W1 v2.ownBlock) : KeepR w.heap.size W (W1.setCell ⟨w.heap.size + 1, 0, none⟩ v) /\ KeepsFrom w.heap.size W (W1.setCell ⟨w.heap.size + 1, 0, none⟩ v) := by
 have x2 := h.b2.kept hg (h.b2.not_row (by decide) h.r2)
 exact ⟨⟨(below_own h.r2 h.bl.size hg).setCell (p := ⟨w.heap.size + 1, 0, none⟩) (by show w.heap.size <= w.heap.size + 1; omega) _, (KeepT.own h.r2 hg (by decide)).trans (KeepT.turn (grownBy_setCell' _ _ _) x2 (by decide))⟩, (keepsFrom_own h.r2 hg).trans ((KeepsOthers.setCell _ _ _).from _)⟩
def mkL {xs : List HP} (pre : List { x : HP // x ∈ xs }) : List ByteArray := pre.flatMap fun x => pMakes x.1.1
def dpL {xs : List HP} (pre : List { x : HP // x ∈ xs }) : List ByteArray := pre.flatMap fun x => pDrops x.1.1
theorem flat_le {xs : List HP} {f : Pt -> List ByteArray} {m : Nat} (hf : ∀ x ∈ xs, (f x.1).length <= m) : ∀ pre : List { x : HP // x ∈ xs }, (pre.flatMap fun x => f x.1.1).length <= pre.length * m
 | [] => by simp
 | x :: pre => by
  have ih := flat_le hf pre
  have := hf x.1 x.2
  rw [List.flatMap_cons, Zq, Zt, Nat.succ_mul]
  omega
theorem mkL_snoc {xs : List HP} (pre : List { x : HP // x ∈ xs }) (x : { x : HP // x ∈ xs }) : mkL (pre ++ [x]) = mkL pre ++ pMakes x.1.1 := by simp [mkL]
theorem dpL_snoc {xs : List HP} (pre : List { x : HP // x ∈ xs }) (x : { x : HP // x ∈ xs }) : dpL (pre ++ [x]) = dpL pre ++ pDrops x.1.1 := by simp [dpL]
theorem flat_srt {xs : List HP} {zs : List { x : HP // x ∈ xs }} (h : SrtP (zs.map Subtype.val) xs) (f : Pt -> List ByteArray) (s : ByteArray) : s ∈ (zs.flatMap fun x => f x.1.1) ↔ ∃ x ∈ xs.map Prod.fst, s ∈ f x := by
 rw [Vf]
 constructor
 ·rintro ⟨x, _, hs⟩
  exact ⟨x.1.1, Yi.2 ⟨x.1, x.2, rfl⟩, hs⟩
 ·rintro ⟨x, hx, hs⟩
  obtain ⟨y, hy, rfl⟩ := Yi.1 hx
  obtain ⟨z, hz, e⟩ := Yi.1 (h.1.mem_iff.2 hy)
  exact ⟨z, hz, by rw [e]; exact hs⟩
theorem strs_exact {W : World} {base : Nat} {v : Value} {l : List ByteArray} (h : W.ownsRow base 9 1 v l.length (scells l)) : ∃ p c lo hi, v = .slice p l.length c /\ StrsAt W lo hi p l.length l /\ hi <= W.heap.size /\ ∀ b, v.ownBlock ≠ some b -> hi <= b ∨ b < lo := by
 obtain ⟨p, c, e, hs, hp, _⟩ := strsAt_ownC h
 rcases h.2 with ⟨e1, e2⟩ | ⟨g, cap, cur, e1, hb, hg, _⟩
 ·exact ⟨p, c, 0, 0, e, ⟨hs.len, fun h0 => by omega⟩, Ze _, fun b _ => .inl (Ze _)⟩
 ·have hgl := (Zp.1 hg).1
  rw [e1] at e
  cases e
  refine ⟨_, c, g, g + 1, e1, ⟨hs.len, fun h0 => ?_⟩, hgl, fun b hne => ?_⟩
  ·obtain ⟨b', off', e', x1, x2, x3, x4⟩ := hs.cell h0
   cases e'
   exact ⟨_, _, rfl, Zc _, Nat.lt_succ_self _, hgl, x4⟩
  ·have : g ≠ b := fun e => hne (by rw [e1, e]; rfl)
   omega
theorem obj_kept {W W1 : World} {e : TypeId} {base size n : Nat} {v : Value} {xs : List Value} (h : W.ownsRow base e size v n xs) (hg : W.grownBy W1 v.ownBlock) {D : Nat} {o : Obj} (hD : W.heap[D]? = some o) (ho : o.isCells = false) : W1.heap[D]? = some o :=
 (keepsFrom_own (B := 0) h hg).same D o (Ze _) hD ho
theorem tracked_in (n : Nat) (hn : 10 <= n) (lo hi : Nat) (p : Option Addr) (len cap : Nat) (xs : List HP) (w : World) (h : PsIn w lo hi p len xs) :
  CallsIn Fence.wide n Tryz.prog 34 #[.slice p len cap] w fun e w' => ∃ v, e = .returned v /\ w'.ownsRow w.heap.size 9 1 v (trackL (xs.map Prod.fst)).length (scells (trackL (xs.map Prod.fst))) /\ w.grownBy w' none := by
 have h1 : 1 <= n := by omega
 have hro : Fence.wide.round = none := rfl
 obtain ⟨i0, hi', hz0, hz1, hz2⟩ := Yz infoTx
 have H := Za h
 have hsm := h.small
 have htop := h.top
 have HXL := Za h.at_.len
 clear h
 refine callsIn_of_wp_marks Tryz.func34 rfl trivial ?_ hro
 simp only [Tryz.ntmps34, Xg, Zt, Xh, Nat.reduceAdd, Nat.reduceSub, Xl, Xk, Xn, Xm, Ys, Xd]
 gi_wp2_with (refine ⟨trivial, ?_⟩; gi_at_call 42; refine (rising_in (n - 1) _ _ _ _).mono ?_; rintro e w9 ⟨rfl, rfl⟩)
 have b0 := Boxed.new w 48 (.slice none 0 0)
 have b1 := Boxed.new (w.alloc (.cells #[.slice none 0 0] 48)) 48 (.slice none 0 0)
 have b2 := Boxed.new ((w.alloc (.cells #[.slice none 0 0] 48)).alloc (.cells #[.slice none 0 0] 48)) 22 (.slice p len cap)
 rw [Yw] at b1
 rw [Yw, Yw] at b2
 have hB0 : Below w.heap.size w (((w.alloc (.cells #[.slice none 0 0] 48)).alloc (.cells #[.slice none 0 0] 48)).alloc (.cells #[.slice p len cap] 22)) :=
  (((Below.refl _ w).alloc (Zc _) _).alloc (by simp) _).alloc (by simp; omega) _
 refine wpIn_rangeFunc_ownH hro h1 (gf := 75) (lb := #[.pointer (some ⟨w.heap.size + 1 + 1, 0, none⟩)]) rfl trivial (enters_of Tryz.func75 (by kernel_rfl) rfl)
  (rising_stops (n - 1) (by omega) (w.heap.size + 1 + 1) w.heap.size lo hi p len cap xs (by omega) _ (by simp) b2.cell (H.out.at_.calm (Xp hB0)) (by simp; omega) (by simp; omega)) keepR_t (keepR_b (by simp; omega)) (Below.refl _ _) (fun _ => rfl)
  (fun pre W => ∃ v1 v2, TrV w v1 v2 (mkL pre) (dpL pre) W)
  (fun _ _ _ => False)
  (fun s A B row hs hg hr => by obtain ⟨v1, v2, ht⟩ := hs; exact ⟨v1, v2, ht.kept hg fun r e => ⟨by have := (hr r e).1; simp at this; omega, (hr r e).2⟩⟩)
  (fun _ _ _ _ _ hs _ _ => hs)
  ⟨_, _, (b0.alloc _).alloc _, b1.alloc _, Yp _ _ _ _, Yp _ _ _ _, (fun g e => by cases e), hB0⟩
  (fun x a' W => ∃ B, PatBox x.1 B W /\ w.heap.size + 1 < B /\ a' = { tmps := #[.slice p len cap, undef, .slice none 0 0, .pointer (some ⟨w.heap.size, 0, none⟩), .pointer (some ⟨w.heap.size + 1, 0, none⟩), .pointer (some ⟨B, 0, none⟩), .slice p len cap, .func (.func 75) #[] #[.pointer (some ⟨w.heap.size + 1 + 1, 0, none⟩)], (patV x.1)[0]!, undef, undef, undef, undef, undef, undef, undef, undef, undef, undef, undef, undef, undef, undef], defers := [] })
  ?hAx ?assign ?body ?done ?stop
 case hAx =>
  rintro x a' _ A B row ⟨b, hb, h2, h3⟩ hg hrow
  refine ⟨b, (hg.block b (Zp.1 hb).1 fun e => ?_).trans hb, h2, h3⟩
  obtain ⟨_, o, ho, hoc⟩ := hrow b e.symm
  rw [show A.heap[b]? = _ from hb] at ho
  cases ho
  cases hoc
 case assign =>
  intro l pre x W K hI hK
  have HK := Za hK
  clear hK
  unfold patV
  gi_wp2
  obtain ⟨v1, v2, ht⟩ := hI
  have hlt := ht.b2.lt
  have hga := Zd W (.cells (encP x.1).toArray 56) none
  refine HK.out _ _ ((KeepsOthers.alloc W _).from _) ⟨(Xo hga).mono ht.bl.size, KeepT.calm hga⟩ ⟨v1, v2, ht.kept hga (fun r e => by cases e)⟩ ⟨W.heap.size, Vh W _, by omega, rfl⟩
 case body =>
  rintro l pre x a' W hl hlr ⟨v1, v2, ht⟩ ⟨b, hb, hb2, rfl⟩ hlt
  obtain ⟨c0, c1, c2, c3, c4⟩ := hb.cells
  have hpt : HpAt W lo hi x.1 := PtAt.stay (H.out.of x.1 x.2) (below_stay ht.bl htop)
  obtain ⟨p1, k1, rfl⟩ := Xs ht.r1
  obtain ⟨p2, k2, rfl⟩ := Xs ht.r2
  have hpl : pre.length < 16 := by have := HXL.out; omega
  have hA : (mkL pre).length <= 160 := by
   have : (mkL pre).length <= pre.length * 10 := flat_le (f := pMakes) (m := 10) (fun x hx => (H.out.few x hx).makes) pre
   omega
  have hD : (dpL pre).length <= 160 := by
   have : (dpL pre).length <= pre.length * 10 := flat_le (f := pDrops) (m := 10) (fun x hx => (H.out.few x hx).drops) pre
   omega
  have hE : (pMakes x.1.1).length <= 10 := (H.out.few x.1 x.2).makes
  have hF : (pDrops x.1.1).length <= 10 := (H.out.few x.1 x.2).drops
  have hem := hpt.makes.len
  have hfm := hpt.drops.len
  have HS1 := Za (src_strs hpt.makes hpt.zm)
  have HT := Za ht
  have HPT := Za hpt
  have hcb1 := ht.b1.cell
  have hbs := ht.bl.size
  have HMK : Hid (mkL (pre ++ [x]) = mkL pre ++ pMakes x.1.1) := Za (mkL_snoc pre x)
  have HDP : Hid (dpL (pre ++ [x]) = dpL pre ++ pDrops x.1.1) := Za (dpL_snoc pre x)
  have hbw : b < W.heap.size := (Zp.1 hb).1
  have HBX := Za hb
  clear ht hpt hb
  have HEL : Hid ((scells (pMakes x.1.1)).length = x.1.2.2.1.2.1 * 1) := Za (by unfold scells; rw [Yn, hem]; omega)
  have HFL : Hid ((scells (pDrops x.1.1)).length = x.1.2.2.2.1.2.1 * 1) := Za (by unfold scells; rw [Yn, hfm]; omega)
  have HSA : Hid (∀ E : List ByteArray, scells (mkL pre) ++ scells E = scells (mkL pre ++ E)) := Za fun E => by simp [scells]
  have HSD : Hid (∀ E : List ByteArray, scells (dpL pre) ++ scells E = scells (dpL pre ++ E)) := Za fun E => by simp [scells]
  have HLA : Hid (∀ E : List ByteArray, (mkL pre ++ E).length = (mkL pre).length + E.length) := Za fun E => Zq
  have HLD : Hid (∀ E : List ByteArray, (dpL pre ++ E).length = (dpL pre).length + E.length) := Za fun E => Zq
  have hone : ∀ l : List ByteArray, ∀ u ∈ scells l, u.oneCell' = true := fun l u hu => by
   obtain ⟨y, _, rfl⟩ := Yi.1 hu
   rfl
  generalize hna : (mkL pre).length = na at *
  generalize hnd : (dpL pre).length = nd at *
  have HNA := Za hna
  have HND := Za hnd
  rw [hem] at hE
  rw [hfm] at hF
  have HEM := Za hem
  have HFM := Za hfm
  clear hna hnd hem hfm
  gi_wp2_with (first
   | (gi_at_builtin; refine wpListIn_append_apart rfl _ _ 48 rfl w.heap.size 9 i0 (.string .empty) 1 16 Tryz.underlying48 hi' hz0 hz1 hz2 rfl (by decide) (.slice p2 nd k2) nd (scells (dpL pre)) rfl (by have h9 := HT2.out.r2; rwa [HND.out] at h9) x.1.2.2.2.1.1 x.1.2.2.2.1.2.1 x.1.2.2.2.1.2.2 (scells (pDrops x.1.1)) rfl HFL.out HS2.out (hone _) (by unfold maxLen; omega) (by omega) (by have := HT2.out.bl.size; exact this) ?_; intro p4 k4 w4 hown4 hg4 ha4; have HT4 := Za (HT2.out.app2 hg4 (by rw [HLD.out, <- HSD.out, HFM.out]; exact hown4) ha4); have HK4 := Za (HT2.out.keep2 (v := .slice p4 (nd + x.1.2.2.2.1.2.1) k4) hg4); have q4 := (HT2.out.b2.kept hg4 (HT2.out.b2.not_row (by decide) HT2.out.r2)).cell; have q5 := (HT2.out.b2.kept hg4 (HT2.out.b2.not_row (by decide) HT2.out.r2)).frozen; clear hown4 hg4 ha4)
   | (gi_at_builtin; refine wpListIn_append_apart rfl _ _ 48 rfl w.heap.size 9 i0 (.string .empty) 1 16 Tryz.underlying48 hi' hz0 hz1 hz2 rfl (by decide) (.slice p1 na k1) na (scells (mkL pre)) rfl (by have h9 := HT.out.r1; rwa [HNA.out] at h9) x.1.2.2.1.1 x.1.2.2.1.2.1 x.1.2.2.1.2.2 (scells (pMakes x.1.1)) rfl HEL.out HS1.out (hone _) (by unfold maxLen; omega) (by omega) hbs ?_; intro p3 k3 w3 hown3 hg3 ha3; have HT2 := Za (HT.out.app1 hg3 (by rw [HLA.out, <- HSA.out, HEM.out]; exact hown3) ha3); have HK2 := Za (HT.out.keep1 (v := .slice p3 (na + x.1.2.2.1.2.1) k3) hg3); have q1 := (HT.out.b1.kept hg3 (HT.out.b1.not_row (by decide) HT.out.r1)).cell; have q2 := (HT.out.b1.kept hg3 (HT.out.b1.not_row (by decide) HT.out.r1)).frozen; have q3 := HT2.out.b2.cell; have HPB : Hid (PatBox x.1 b _) := Za (HK2.out.1.2 _ _ HBX.out); obtain ⟨d0, d1, d2, d3, d4⟩ := HPB.out.cells; have HPT2 := Za (PtAt.stay HPT.out (below_stay HK2.out.1.1 htop)); have HS2 := Za (src_strs HPT2.out.drops HPT2.out.zx); clear hown3 hg3 ha3))
  exact ⟨keepsFrom_mono (HK2.out.2.trans HK4.out.2) (by simp; omega), keepR_t HK2.out.1 HK4.out.1, _, _, by rw [HMK.out, HDP.out]; exact HT4.out⟩
 case done =>
  rintro D ys W hD hs ⟨v1, v2, ht⟩ hK
  have hA : (mkL ys).length <= 1000 := by
   have h2 : (mkL ys).length <= ys.length * 10 := flat_le (f := pMakes) (m := 10) (fun x hx => (H.out.few x hx).makes) ys
   have h3 := hs.1.length_eq
   rw [Yn, HXL.out] at h3
   omega
  have hD2 : (dpL ys).length <= 1000 := by
   have h2 : (dpL ys).length <= ys.length * 10 := flat_le (f := pDrops) (m := 10) (fun x hx => (H.out.few x hx).drops) ys
   have h3 := hs.1.length_eq
   rw [Yn, HXL.out] at h3
   omega
  have hbl : ((mkL ys).map bl).length = (mkL ys).length := Yn _
  have HMM : Hid (∀ s, s ∈ mkL ys ↔ ∃ x ∈ xs.map Prod.fst, s ∈ pMakes x) := Za fun s => flat_srt hs pMakes s
  have HDM : Hid (∀ s, s ∈ dpL ys ↔ ∃ x ∈ xs.map Prod.fst, s ∈ pDrops x) := Za fun s => flat_srt hs pDrops s
  have r1 := ht.r1
  rw [scells_bl] at r1
  have HSO := Za (sortS_c ((mkL ys).map bl) w.heap.size v1 W (by rw [hbl]; exact r1) (by omega))
  have HT := Za ht
  have HK := Za hK
  have c1 := ht.b1.cell
  have HAL := Za hA
  have HDL := Za hD2
  have HBL := Za hbl
  clear ht hK r1 hs hA hD2 hbl
  gi_wp2_with fail
  refine ⟨trivial, ?_⟩
  refine (callsIn_wide.2 HSO.out).mono ?_
  rintro e w1 ⟨rfl, hr, hg⟩
  have HT1 : Hid (Boxed w1 w.heap.size 48 v1 /\ Boxed w1 (w.heap.size + 1) 48 v2 /\ w1.ownsRow w.heap.size 9 1 v2 (dpL ys).length (scells (dpL ys)) /\ Below w.heap.size w w1 /\ w1.heap[D]? = some (.deferred (some []))) :=
   Za ⟨HT.out.b1.kept hg (HT.out.b1.not_row (by decide) HT.out.r1), HT.out.b2.kept hg (HT.out.b2.not_row (by decide) HT.out.r1), row_kept HT.out.r2 hg (fun g e e' => HT.out.ap g e'.symm e), HT.out.bl.trans (below_own HT.out.r1 HT.out.bl.size hg), obj_kept HT.out.r1 hg HK.out rfl⟩
  have HCO := Za (compactS_o ((mkL ys).map bl) _ rfl w.heap.size v1 w1 hr (by have := HAL.out; have := HBL.out; omega))
  have HRW := Za hr
  have c1' := HT1.out.1.cell
  clear hr hg c1
  gi_wp2_with fail
  refine ⟨trivial, ?_⟩
  refine (callsIn_wide.2 HCO.out).mono ?_
  rintro e w2 ⟨v', R, rfl, hr, hris, hmem, hRl, hbk, hg⟩
  have HB2 := Za (HT1.out.2.1.kept hg (HT1.out.2.1.not_row (by decide) HRW.out))
  have r2 := row_kept HT1.out.2.2.1 hg (fun g e e' => HT.out.ap g e'.symm e)
  have hbw := HT1.out.2.2.2.1.trans (below_own HRW.out HT1.out.2.2.2.1.size hg)
  have HD2 := Za (obj_kept HRW.out hg HT1.out.2.2.2.2 rfl)
  obtain ⟨p2, k2, lo2, hi2, rfl, hst, hh2, hfar⟩ := strs_exact r2
  have HDF := Za (deleteS_c p2 _ k2 lo2 hi2 (dpL ys) (w.heap.size + 1) R w.heap.size v' w2 HB2.out.cell hst (by have := HDL.out; omega) (by have := HAL.out; have := HBL.out; omega) hr (HB2.out.not_row (by decide) hr) HB2.out.lt (fun b hb => hfar b fun e => HT.out.ap b (by rw [<- hbk]; exact hb) e) hh2)
  have HBW := Za hbw
  have HR2 := Za hr
  have HTR : Hid (R.filter (notIn (dpL ys)) = trackL (xs.map Prod.fst)) := Za (trackL_uniq (ris_filter hris _) fun s => by
   rw [List.mem_filter, notIn_iff, hmem, HDM.out]
   constructor
   ·rintro ⟨h1, h2⟩
    obtain ⟨y, hy, e⟩ := Yi.1 h1
    rw [bl_inj e] at hy
    exact ⟨(HMM.out s).1 hy, h2⟩
   ·rintro ⟨h1, h2⟩
    exact ⟨Yi.2 ⟨s, (HMM.out s).2 h1, rfl⟩, h2⟩)
  clear hr hris hmem hRl hbk hg r2 hbw hst hh2 hfar c1'
  gi_wp2_with fail
  refine ⟨trivial, ?_⟩
  refine (callsIn_wide.2 HDF.out).mono ?_
  rintro e w3 ⟨v3, rfl, hr, hg⟩
  rw [HTR.out] at hr
  have HR3 := Za hr
  have hK3 := obj_kept HR2.out hg HD2.out rfl
  have hb3 := HBW.out.trans (below_own HR2.out HBW.out.size hg)
  clear hr hg
  gi_wp2
  refine ⟨by simp, .inl ⟨_, _, rfl, run_takeDeferred hK3, ?_⟩⟩
  exact ⟨_, results_tmp rfl _ _ _, _, rfl, ownsRow_putObj HR3.out _ hK3 rfl, Xp (hb3.trans (belowK_b (w := w) (Zc _) w3 D _ _ (by simp at hD; omega) hK3 rfl rfl))⟩
 case stop =>
  rintro D c pre W _ _ h _
  exact h.elim
end Go.Proofs.YtnknejokneddbaaGreatDoor
