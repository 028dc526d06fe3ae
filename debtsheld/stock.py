"""The texts of the programs on the shelf.

The promises of a program rest on the steps that its text takes: whoever changes a text counts them again.
"""

TEXTS = {
    # The front items, and the others from the last one on. Only the last item of the front turns all others around,
    # but each version with this item does so anew.
    "eager": """
(def empty () (Q (N) (N)))
(def rev (l a) (case l ((N) a) ((C x t) (rev t (C x a)))))
(def check (f r) (case f ((N) (Q (rev r (N)) (N))) ((C x t) (Q f r))))
(def put (q x) (case q ((Q f r) (check f (C x r)))))
(def first (q) (case q ((Q f r) (case f ((C x t) x)))))
(def rest (q) (case q ((Q f r) (case f ((C x t) (check t r))))))
""",
    # (Q m f n r): m items in the lazy front f, and n in r, from the last one on; n is never above m. The items of r
    # are turned around long before they are asked for, in one cell behind all cells of the front, so every version
    # that needs this cell has paid for it.
    "banker": """
(def empty () (Q 0 (delay (N)) 0 (N)))
(def put (q x) (case q ((Q m f n r) (check m f (+ n 1) (C x r)))))
(def first (q) (case q ((Q m f n r) (case (force f) ((C x t) x)))))
(def rest (q) (case q ((Q m f n r) (case (force f) ((C x t) (check (- m 1) t n r))))))
(def check (m f n r) (if < m n (Q (+ m n) (append f r) 0 (N)) (Q m f n r)))
(def append (f r) (delay (case (force f) ((N) (turn r (N))) ((C x t) (C x (append t r))))))
(def turn (r a) (case r ((N) a) ((C x t) (turn t (C x (delay a))))))
""",
    # (Q f r s): the lazy front, the others from the last one on, and of the front what is still delayed: as many items
    # as the front has more than r. Each put or rest works out one cell of s, so when a new front is made all cells of
    # the old one are worked out, and rotate takes one item of each of both in each cell.
    "real": """
(def empty () (let f (delay (N)) (Q f (N) f)))
(def put (q x) (case q ((Q f r s) (check f (C x r) s))))
(def first (q) (case q ((Q f r s) (case (force f) ((C x t) x)))))
(def rest (q) (case q ((Q f r s) (case (force f) ((C x t) (check t r s))))))
(def check (f r s)
  (case (force s) ((C x t) (Q f r t)) ((N) (let g (delay (rotate f r (delay (N)))) (Q g (N) g)))))
(def rotate (f r a)
  (case r ((C y u) (case (force f) ((N) (C y a)) ((C x t) (C x (delay (rotate t u (delay (C y a))))))))))
""",
    # (D m f n r): m items in f, from the front on, and n in r, from the back on, both lazy. Neither side has more than
    # 3 * k + 1 items, k being those of the other one: the longer one would keep 2 * k + 1 and give the rest away.
    # If a side has no item, the other one has at most one.
    "deque": """
(def empty () (let n (delay (N)) (D 0 n 0 n)))
(def front (x d) (case d ((D m f n r) (check (+ m 1) (delay (C x f)) n r))))
(def back (d x) (case d ((D m f n r) (check m f (+ n 1) (delay (C x r))))))
(def first (d) (case d ((D m f n r) (case (force f) ((C x t) x) ((N) (case (force r) ((C x t) x)))))))
(def last (d) (case d ((D m f n r) (case (force r) ((C x t) x) ((N) (case (force f) ((C x t) x)))))))
(def rest (d) (case d ((D m f n r)
  (case (force f) ((C x t) (check (- m 1) t n r)) ((N) (case (force r) ((C x t) (empty))))))))
(def init (d) (case d ((D m f n r)
  (case (force r) ((C x t) (check m f (- n 1) t)) ((N) (case (force f) ((C x t) (empty))))))))
(def check (m f n r)
  (if < (+ (* 3 n) 1) m
    (let k (+ (+ n n) 1) (D k (take k f) (- (+ m n) k) (append r k f)))
    (if < (+ (* 3 m) 1) n
      (let k (+ (+ m m) 1) (D (- (+ m n) k) (append f k r) k (take k r)))
      (D m f n r))))
(def take (k f) (delay (if = k 0 (N) (case (force f) ((C x t) (C x (take (- k 1) t)))))))
(def append (f k r) (delay (case (force f) ((N) (turn (drop k r) (N))) ((C x t) (C x (append t k r))))))
(def drop (k r) (if = k 0 r (case (force r) ((C x t) (drop (- k 1) t)))))
(def turn (r a) (case (force r) ((N) a) ((C x t) (turn t (C x (delay a))))))
""",
    # Rows (R w t p) of trees with w items: only the first two can have equally many, and then a cons joins them.
    # (B x v a b): both trees below x have v items. What is beyond the last item, or before the first one, comes to an
    # empty row or to a leaf that is not at 0, and gets stuck there.
    "skew": """
(def empty () (N))
(def cons (x l)
  (case l
    ((N) (R 1 (L x) l))
    ((R v s p) (case p
      ((N) (R 1 (L x) l))
      ((R w t q) (if = v w (R (+ (+ v w) 1) (B x v s t) q) (R 1 (L x) l)))))))
(def head (l) (case l ((R w t p) (case t ((L x) x) ((B x v a b) x)))))
(def tail (l) (case l ((R w t p) (case t ((L x) p) ((B x v a b) (R v a (R v b p)))))))
(def look (l i) (case l ((R w t p) (if < i w (find t i) (look p (- i w))))))
(def find (t i)
  (case t
    ((L x) (if = i 0 x (force i)))
    ((B x v a b) (if = i 0 x (if < v i (find b (- (- i v) 1)) (find a (- i 1)))))))
(def set (l i x) (case l ((R w t p) (if < i w (R w (change t i x) p) (R w t (set p (- i w) x))))))
(def change (t i x)
  (case t
    ((L y) (if = i 0 (L x) (force i)))
    ((B y v a b)
      (if = i 0 (B x v a b)
        (if < v i (B y v a (change b (- (- i v) 1) x)) (B y v (change a (- i 1) x) b))))))
""",
    # (L x q): the first item, and a queue as in "real" of the lists behind it, each one in a cell. A rest links these
    # together, each one with a delayed link of all behind it.
    "joined": """
(def empty () (E))
(def one (x) (L x (fresh)))
(def join (a b) (case a ((E) b) ((L x q) (case b ((E) a) ((L y p) (L x (behind q (delay b))))))))
(def first (a) (case a ((L x q) x)))
(def rest (a) (case a ((L x q) (links q))))
(def links (q) (case q ((Q f r s) (case (force f) ((N) (E)) ((C c t) (link (force c) (check t r s)))))))
(def link (a q)
  (case q ((Q f r s) (case (force f)
    ((N) a)
    ((C c t) (case a ((L x p) (L x (behind p (delay (links q)))))))))))
(def fresh () (let f (delay (N)) (Q f (N) f)))
(def behind (q c) (case q ((Q f r s) (check f (C c r) s))))
(def check (f r s)
  (case (force s) ((C x t) (Q f r t)) ((N) (let g (delay (rotate f r (delay (N)))) (Q g (N) g)))))
(def rotate (f r a)
  (case r ((C y u) (case (force f) ((N) (C y a)) ((C x t) (C x (delay (rotate t u (delay (C y a))))))))))
""",
    # (H r x a b): the least item x, and the rank r, which is 1 above that of b. The rank of a is never below that of b,
    # so the way along the right sides is short, and merge goes along it.
    "leftist": """
(def empty () (E))
(def insert (h x) (merge h (H 1 x (E) (E))))
(def least (h) (case h ((H r x a b) x)))
(def without (h) (case h ((H r x a b) (merge a b))))
(def merge (h g)
  (case h
    ((E) g)
    ((H r x a b) (case g
      ((E) h)
      ((H s y c d) (if < y x (build y c (merge h d)) (build x a (merge b g))))))))
(def build (x a b) (let r (rank a) (let s (rank b) (if < r s (H (+ r 1) x b a) (H (+ s 1) x a b)))))
(def rank (h) (case h ((E) 0) ((H r x a b) r)))
""",
    # A cell with a row of trees (T r x c), their ranks r ascending; c has the trees below x, from the rank r - 1 down
    # to 0. An insert or a merge waits in its cell, so that elder versions share what comes of it; without is done at
    # once, so that not much waits.
    "binomial": """
(def empty () (delay (N)))
(def insert (h x) (delay (add (T 0 x (N)) (force h))))
(def merge (h g) (delay (mix (force h) (force g))))
(def least (h) (case (force h) ((C t p) (case t ((T r x c) (low x p))))))
(def low (x p) (case p ((N) x) ((C t q) (case t ((T r y c) (if < y x (low y q) (low x q)))))))
(def without (h)
  (case (pick (force h)) ((P t p) (case t ((T r x c) (let w (mix (turn c (N)) p) (delay w)))))))
(def add (t p)
  (case p
    ((N) (C t p))
    ((C u q) (case t ((T r x c) (case u ((T s y d)
      (if < r s (C t p) (if < y x (add (T (+ r 1) y (C t d)) q) (add (T (+ r 1) x (C u c)) q))))))))))
(def mix (p q)
  (case p ((N) q) ((C t v) (case q ((N) p) ((C u w) (case t ((T r x c) (case u ((T s y d)
    (if < r s (C t (mix v q))
      (if < s r (C u (mix p w))
        (if < y x (add (T (+ r 1) y (C t d)) (mix v w)) (add (T (+ r 1) x (C u c)) (mix v w))))))))))))))
(def pick (p)
  (case p ((C t q) (case q
    ((N) (P t q))
    ((C u v) (case (pick q) ((P w o) (case t ((T r x c) (case w ((T s y d)
      (if < y x (P w (C t o)) (P t q)))))))))))))
(def turn (c a) (case c ((N) a) ((C t d) (turn d (C t a)))))
""",
}
