package show

import "stockade/api"

// Ranks of operators, the loosest first; what has no operator between its parts holds tighter than all of them.
const (
	rankOr = 1 + iota
	rankAnd
	rankCompare
	rankSum
	rankProduct
	rankWhole
)

// rank is the rank of an operator of two; 0, if there is no such operator.
func rank(operator string) int {
	switch operator {
	case "||":
		return rankOr
	case "&&":
		return rankAnd
	case "==", "!=", "<", "<=", ">", ">=":
		return rankCompare
	case "+", "-":
		return rankSum
	case "*", "/", "%":
		return rankProduct
	}
	return 0
}

// hold is how tight an expression holds together.
func hold(n api.Node) int {
	if n.Kind == api.KBinary {
		return rank(n.Name)
	}
	return rankWhole
}

func prefix(operator string) bool {
	return sign(operator) || operator == "int" || operator == "float"
}

// sign tells the unary operators behind which no bracket stands of itself.
func sign(operator string) bool {
	return operator == "-" || operator == "!"
}
