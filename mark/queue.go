package mark

// queue is numbers of which the least stands first: each one at a place i has two, at 2*i+1 and 2*i+2, that are not less. So adding one and taking the least goes through few of them, however many wait.
type queue []int

// add lets one more wait.
func (q *queue) add(at int) {
	l := append(*q, at)
	for i := len(l) - 1; i > 0; {
		above := (i - 1) / 2
		if l[above] <= l[i] {
			break
		}
		l[above], l[i] = l[i], l[above]
		i = above
	}
	*q = l
}

// takeLeast takes the least away and tells it. There must be one.
func (q *queue) takeLeast() int {
	l := *q
	least, last := l[0], len(l)-1
	l[0] = l[last]
	l = l[:last]
	for i := 0; ; {
		next := l.leastOf(i)
		if next == i {
			break
		}
		l[i], l[next] = l[next], l[i]
		i = next
	}
	*q = l
	return least
}

// leastOf is the place of the least of the one at i and its two, as far as they are there.
func (q queue) leastOf(i int) int {
	least := i
	for next := 2*i + 1; next <= 2*i+2 && next < len(q); next++ {
		if q[next] < q[least] {
			least = next
		}
	}
	return least
}
