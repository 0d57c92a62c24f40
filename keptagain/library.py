"""The library: parts that programs can have ahead of their own forms, written in the language itself.

What a part defines for itself alone has the part's name ahead, so that programs do not meet it.
"""

from keptagain.errors import BadText, NoPart

PARTS = {
    "generators": """(def generators/step (fn (g) ((get g))))
(def generator (fn (f)
  (let ((g (cell none)))
    (put g (fn ()
      (prompt (fn ()
        (f (fn (x) (part (fn (k) (put g (fn () (k none))) (list x)))))
        (put g (fn () '()))
        '()))))
    g)))
(def next (fn (g) (let ((found (generators/step g))) (if (same found '()) none (head found)))))
(def taken (fn (g n)
  (if (less n 1) '()
    (let ((found (generators/step g)))
      (if (same found '()) '() (pair (head found) (taken g (sub n 1))))))))""",
    "lists": """(def append (fn (l m) (if (same l '()) m (pair (head l) (append (tail l) m)))))
(def lists/onto (fn (l m) (if (same l '()) m (lists/onto (tail l) (pair (head l) m)))))
(def reverse (fn (l) (lists/onto l '())))
(def map (fn (f l) (if (same l '()) '() (pair (f (head l)) (map f (tail l))))))
(def filter (fn (f l)
  (if (same l '()) '()
    (if (f (head l)) (pair (head l) (filter f (tail l))) (filter f (tail l))))))
(def fold (fn (f s l) (if (same l '()) s (fold f (f s (head l)) (tail l)))))
(def lists/count (fn (l n) (if (same l '()) n (lists/count (tail l) (add n 1)))))
(def count (fn (l) (lists/count l 0)))
(def lists/range (fn (n l) (if (less n 1) l (lists/range (sub n 1) (pair (sub n 1) l)))))
(def range (fn (n) (lists/range n '())))
(def has? (fn (x l) (if (same l '()) no (if (same x (head l)) yes (has? x (tail l))))))
(def lists/put (fn (n l)
  (if (same l '()) (list n)
    (if (less (head l) n) (pair (head l) (lists/put n (tail l))) (pair n l)))))
(def sorted (fn (l) (if (same l '()) '() (lists/put (head l) (sorted (tail l))))))""",
    "searches": """(def searches/begin (fn (f) (prompt (fn () (pair 'done (f))))))
(def choose (fn (l) (part (fn (k) (pair k l)))))
(def must (fn (c) (if c none (part (fn (k) '())))))
(def searches/go (fn (way left found one)
  (if (same way '()) (searches/back left found one)
    (if (same (head way) 'done)
      (if one (list (tail way)) (searches/back left (pair (tail way) found) one))
      (searches/back (pair way left) found one)))))
(def searches/back (fn (left found one)
  (if (same left '()) found
    (let ((k (head (head left))) (l (tail (head left))))
      (if (same l '()) (searches/back (tail left) found one)
        (searches/go (k (head l)) (pair (pair k (tail l)) (tail left)) found one))))))
(def searches/turn (fn (l m) (if (same l '()) m (searches/turn (tail l) (pair (head l) m)))))
(def all (fn (f) (searches/turn (searches/go (searches/begin f) '() '() no) '())))
(def first (fn (f)
  (let ((found (searches/go (searches/begin f) '() '() yes)))
    (if (same found '()) none (head found)))))""",
    "threads": """(def threads/front (cell '()))
(def threads/back (cell '()))
(def threads/wait (fn (f) (put threads/back (pair f (get threads/back)))))
(def spawn (fn (f) (threads/wait (fn () (prompt f)))))
(def rest-a-while (fn () (part (fn (k) (threads/wait (fn () (k none)))))))
(def threads/turn (fn (l m) (if (same l '()) m (threads/turn (tail l) (pair (head l) m)))))
(def threads/begin (fn (waiting) (put threads/front (tail waiting)) ((head waiting)) (run-all)))
(def run-all (fn ()
  (if (same (get threads/front) '())
    (if (same (get threads/back) '()) none
      (let ((waiting (threads/turn (get threads/back) '())))
        (put threads/back '())
        (threads/begin waiting)))
    (threads/begin (get threads/front)))))""",
    "undo": """(def lent (fn (c v f)
  (let ((swap (fn () (let ((held (get c))) (put c v) (set v held)))))
    (wind swap f swap))))
(def caught (fn (f d) (try f (fn (why) d))))
(def kept-if (fn (c f)
  (let ((held (get c)))
    (let ((told (caught f no)))
      (if told told (do (put c held) no))))))""",
}


def parts():
    """The names of all parts."""
    return tuple(sorted(PARTS))


def part_text(name):
    """The text of a part."""
    if not isinstance(name, str) or name not in PARTS:
        raise NoPart(name)
    return PARTS[name]


def with_parts(names, text):
    """The texts of parts, and behind them text."""
    if not isinstance(names, tuple):
        raise NoPart(names)
    texts = [part_text(name) for name in names]
    if not isinstance(text, str):
        raise BadText((0, 0))
    return "\n".join([*texts, text])
